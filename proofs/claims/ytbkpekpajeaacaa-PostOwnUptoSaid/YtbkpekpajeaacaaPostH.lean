/- Package post as it landed: TakeHeader, TakeProof, TakeTx. -/
import Derived.Test.YtbkpekpajeaacaaPostM
import Derived.Test.YtbkpekpajeaacaaCrRTake
namespace Po
noncomputable def takeH (s : List UInt8) (n : Int) : Vt.Vtx × Nat := if kind s = 104 then Vt.take s.tail n else Vt.none
noncomputable def takeC (s : List UInt8) (n : Int) : Cr.Prf × Nat := if kind s = 99 then Cr.take s.tail n else Cr.none
end Po
namespace Go.Proofs.Ytbkpekpajeaacaa
open Go.RowKit
set_option maxRecDepth 100000
attribute [local go_sem] ByteArray.mk_append_mk
attribute [local go_sem] ba_tail
section
variable {W : World} {B n : Nat} {T : TypeId}
theorem Blk.sets6 {x0 x1 x2 x3 x4 x5 : Value} (h : Blk W B T [x0, x1, x2, x3, x4, x5]) (y0 y1 y2 y3 y4 y5 : Value) : Blk (((((((W).setCell ⟨B, 0, none⟩ y0).setCell ⟨B, 1, none⟩ y1).setCell ⟨B, 2, none⟩ y2).setCell ⟨B, 3, none⟩ y3).setCell ⟨B, 4, none⟩ y4).setCell ⟨B, 5, none⟩ y5) B T [y0, y1, y2, y3, y4, y5] := ((((((h).set 0 y0 rfl).set 1 y1 rfl).set 2 y2 rfl).set 3 y3 rfl).set 4 y4 rfl).set 5 y5 rfl
theorem Blk.others6 {cs : List Value} {A : Nat} (h : Blk W A T cs) (hne : A ≠ B) (y0 y1 y2 y3 y4 y5 : Value) : Blk (((((((W).setCell ⟨B, 0, none⟩ y0).setCell ⟨B, 1, none⟩ y1).setCell ⟨B, 2, none⟩ y2).setCell ⟨B, 3, none⟩ y3).setCell ⟨B, 4, none⟩ y4).setCell ⟨B, 5, none⟩ y5) A T cs := ((((((h).other hne 0 y0).other hne 1 y1).other hne 2 y2).other hne 3 y3).other hne 4 y4).other hne 5 y5
theorem below_set6P {W0 : World} (h : Below n W0 W) (hB : n ≤ B) (y0 y1 y2 y3 y4 y5 : Value) : Below n W0 (((((((W).setCell ⟨B, 0, none⟩ y0).setCell ⟨B, 1, none⟩ y1).setCell ⟨B, 2, none⟩ y2).setCell ⟨B, 3, none⟩ y3).setCell ⟨B, 4, none⟩ y4).setCell ⟨B, 5, none⟩ y5) := ((((((h).setCell (p := ⟨B, 0, none⟩) hB y0).setCell (p := ⟨B, 1, none⟩) hB y1).setCell (p := ⟨B, 2, none⟩) hB y2).setCell (p := ⟨B, 3, none⟩) hB y3).setCell (p := ⟨B, 4, none⟩) hB y4).setCell (p := ⟨B, 5, none⟩) hB y5
theorem Blk.sets7 {x0 x1 x2 x3 x4 x5 x6 : Value} (h : Blk W B T [x0, x1, x2, x3, x4, x5, x6]) (y0 y1 y2 y3 y4 y5 y6 : Value) : Blk ((((((((W).setCell ⟨B, 0, none⟩ y0).setCell ⟨B, 1, none⟩ y1).setCell ⟨B, 2, none⟩ y2).setCell ⟨B, 3, none⟩ y3).setCell ⟨B, 4, none⟩ y4).setCell ⟨B, 5, none⟩ y5).setCell ⟨B, 6, none⟩ y6) B T [y0, y1, y2, y3, y4, y5, y6] := (((((((h).set 0 y0 rfl).set 1 y1 rfl).set 2 y2 rfl).set 3 y3 rfl).set 4 y4 rfl).set 5 y5 rfl).set 6 y6 rfl
theorem Blk.others7 {cs : List Value} {A : Nat} (h : Blk W A T cs) (hne : A ≠ B) (y0 y1 y2 y3 y4 y5 y6 : Value) : Blk ((((((((W).setCell ⟨B, 0, none⟩ y0).setCell ⟨B, 1, none⟩ y1).setCell ⟨B, 2, none⟩ y2).setCell ⟨B, 3, none⟩ y3).setCell ⟨B, 4, none⟩ y4).setCell ⟨B, 5, none⟩ y5).setCell ⟨B, 6, none⟩ y6) A T cs := (((((((h).other hne 0 y0).other hne 1 y1).other hne 2 y2).other hne 3 y3).other hne 4 y4).other hne 5 y5).other hne 6 y6
theorem below_set7P {W0 : World} (h : Below n W0 W) (hB : n ≤ B) (y0 y1 y2 y3 y4 y5 y6 : Value) : Below n W0 ((((((((W).setCell ⟨B, 0, none⟩ y0).setCell ⟨B, 1, none⟩ y1).setCell ⟨B, 2, none⟩ y2).setCell ⟨B, 3, none⟩ y3).setCell ⟨B, 4, none⟩ y4).setCell ⟨B, 5, none⟩ y5).setCell ⟨B, 6, none⟩ y6) := (((((((h).setCell (p := ⟨B, 0, none⟩) hB y0).setCell (p := ⟨B, 1, none⟩) hB y1).setCell (p := ⟨B, 2, none⟩) hB y2).setCell (p := ⟨B, 3, none⟩) hB y3).setCell (p := ⟨B, 4, none⟩) hB y4).setCell (p := ⟨B, 5, none⟩) hB y5).setCell (p := ⟨B, 6, none⟩) hB y6
end

set_option maxHeartbeats 4000000 in
theorem catchHd_panicking (p : Addr) (u : Value) (w : World) (hc : (w.alloc (.cells #[.int .i64 3] 115)).cell? p = some u) (hz : (w.alloc (.cells #[.int .i64 3] 115)).frozen? p = false) :
    CallsD Try.prog 75 #[.pointer (some p)] (.panicking [pk3]) w fun e u' w' =>
      e = .returned (.tuple #[]) ∧ u' = .panicking [{ v := pk3.v, recovered := true }] ∧ w' = (w.alloc (.cells #[.int .i64 3] 115)).setCell p (.int .i64 3) := by
  have h1 := asY
  refine callsD_of_wpS Try.func75 rfl fun c₀ cs hu => ?_
  apply wpS_seq
  apply wpS_region
  simp [wpOpsS, go_sem, recoverD, hu, Try.ntmps75, Exit.thenS, h1]
  apply wpS_seq
  apply wpS_region
  simp [wpOpsS, go_sem, Exit.thenS, Array.replicate]
  refine wpS_cond (t := true) (by simp [Act.eval]) ?_
  simp only [if_true]
  apply wpS_region
  simp [wpOpsS, go_sem, hc, hz, bodyPostS, results, Try.results75]

set_option maxHeartbeats 4000000 in
theorem catchHd_idle (p : Addr) (w : World) :
    CallsD Try.prog 75 #[.pointer (some p)] .returning w fun e u' w' => e = .returned (.tuple #[]) ∧ u' = .returning ∧ w' = w.alloc (.cells #[.int .i64 0] 115) := by
  have h1 := asN
  refine callsD_of_wpS Try.func75 rfl fun c₀ cs hu => ?_
  apply wpS_seq
  apply wpS_region
  simp [wpOpsS, go_sem, recoverD, hu, Try.ntmps75, Exit.thenS, h1]
  apply wpS_seq
  apply wpS_region
  simp [wpOpsS, go_sem, Exit.thenS, Array.replicate]
  refine wpS_cond (t := false) (by simp [Act.eval]) ?_
  simp only [Bool.false_eq_true, if_false]
  refine wpS_of_wp (wp_skip ?_)
  cases c₀
  simp_all [bodyPostS, results, Try.results75]

set_option maxHeartbeats 4000000 in
theorem pdecHd (s : List UInt8) (n : Int) (q : Addr) (hs : s.length ≤ 140737488351232) (hnb : n ≤ 4294967296 ∨ s.length ≤ 4294967296) (n1 : -9223372036854775808 ≤ n) (n2 : n ≤ 9223372036854775807) (w : World) (hq : w.cell? q = some (.int .i64 n)) : Calls Try.prog 44 #[tx s, .pointer (some q)] w (TV (Vt.take s n) w) := by
  have HT := Lib.hid (fun W => pvtake s n hs hnb n1 n2 W)
  generalize Vt.take s n = R at *
  obtain ⟨⟨a, r, bs, ps, x, y⟩, er⟩ := R
  have A0 := Lib.hid (Blk.new w 27 [.int .i64 0, .int .i64 0, .slice none 0 0, .slice none 0 0, .int .i64 0, .int .i64 0])
  have G0 := Lib.hid (show Below w.heap.size w (w.alloc (.cells #[.int .i64 0, .int .i64 0, .slice none 0 0, .slice none 0 0, .int .i64 0, .int .i64 0] 27)) from (Below.refl _ _).alloc (Nat.le_refl _) _)
  have hq1 := below_cell G0.out hq
  clear hs hnb n1 n2
  go_enter Try.func44, Try.ntmps44
  go_wp2_with fail
  refine (HT.out _).mono ?_
  rintro e w1 ⟨bv, pv, rfl, hb, hp, g1⟩
  simp only [] at hb hp
  have A1 := Lib.hid (A0.out.kept g1)
  have G1 := Lib.hid (grow_trans G0.out g1)
  clear g1
  have HBT := Lib.hid hb
  have HPT := Lib.hid hp
  obtain ⟨m1, m2, rfl⟩ := hb.at.len
  obtain ⟨m3, m4, rfl⟩ := hp.at.len
  clear hb hp
  have c0 := A1.out.cell 0 rfl
  have f0 := A1.out.free 0
  have c1 := A1.out.cell 1 rfl
  have f1 := A1.out.free 1
  have c2 := A1.out.cell 2 rfl
  have f2 := A1.out.free 2
  have c3 := A1.out.cell 3 rfl
  have f3 := A1.out.free 3
  have c4 := A1.out.cell 4 rfl
  have f4 := A1.out.free 4
  have c5 := A1.out.cell 5 rfl
  have f5 := A1.out.free 5
  go_wp2_with fail
  refine bodyPost_ret (v := .tuple #[.agg #[.int .i64 a, .int .i64 r, .slice m1 bs.length m2, .slice m3 ps.length m4, .int .i64 x, .int .i64 y], .int .i64 er]) ?_ rfl ?_
  · have hD := A1.out.sets6 (.int .i64 a) (.int .i64 r) (.slice m1 bs.length m2) (.slice m3 ps.length m4) (.int .i64 x) (.int .i64 y)
    have d0 := hD.cell 0 rfl
    have d1 := hD.cell 1 rfl
    have d2 := hD.cell 2 rfl
    have d3 := hD.cell 3 rfl
    have d4 := hD.cell 4 rfl
    have d5 := hD.cell 5 rfl
    simp [results, Try.results44, go_sem, d0, d1, d2, d3, d4, d5]
  · have K := Keeps.vsets (show VBox w1 w.heap.size 0 0 (.slice none 0 0) (.slice none 0 0) 0 0 from A1.out) a r (.slice m1 bs.length m2) (.slice m3 ps.length m4) x y
    exact ⟨_, _, rfl, HBT.out.keep K, HPT.out.keepT K, below_set6P G1.out (Nat.le_refl _) (.int .i64 a) (.int .i64 r) (.slice m1 bs.length m2) (.slice m3 ps.length m4) (.int .i64 x) (.int .i64 y)⟩

set_option maxHeartbeats 4000000 in
theorem ptakeHd_yes (c : UInt8) (s : List UInt8) (n : Int) (q : Addr) (hs : s.length ≤ 140737488351232) (hnb : n ≤ 4294967296 ∨ s.length ≤ 4294967296) (n1 : -9223372036854775808 ≤ n) (n2 : n ≤ 9223372036854775807) (w : World) (hq : w.cell? q = some (.int .i64 n)) : Calls Try.prog 43 #[.int .u8 c.toNat, tx (c :: s), .func (.func 44) #[] #[.pointer (some q)]] w (TV (Vt.take s n) w) := by
  have HB := Lib.hid (fun W => pbehind_yes c s W)
  have HD := Lib.hid (fun W h => pdecHd s n q hs hnb n1 n2 W h)
  generalize Vt.take s n = R at *
  obtain ⟨⟨a, r, bs, ps, x, y⟩, er⟩ := R
  clear hs hnb n1 n2
  have hmf : ∀ (fn : Fn) (first cap : Array Value) (w : World), (Instr.makeFunc fn first cap).run Try.prog w = .ok (.func fn first cap) w := fun _ _ _ _ => rfl
  have A0 := Lib.hid ((Blk.new w 27 [.int .i64 0, .int .i64 0, .slice none 0 0, .slice none 0 0, .int .i64 0, .int .i64 0]).alloc (.cells #[.int .i64 0] 34))
  have B0 := Lib.hid (by have h := Blk.new (w.alloc (.cells #[.int .i64 0, .int .i64 0, .slice none 0 0, .slice none 0 0, .int .i64 0, .int .i64 0] 27)) 34 [.int .i64 0]; rwa [World.size_alloc] at h : Blk ((w.alloc (.cells #[.int .i64 0, .int .i64 0, .slice none 0 0, .slice none 0 0, .int .i64 0, .int .i64 0] 27)).alloc (.cells #[.int .i64 0] 34)) (w.heap.size + 1) 34 [.int .i64 0])
  have G0 := Lib.hid (show Below w.heap.size w ((w.alloc (.cells #[.int .i64 0, .int .i64 0, .slice none 0 0, .slice none 0 0, .int .i64 0, .int .i64 0] 27)).alloc (.cells #[.int .i64 0] 34)) from ((Below.refl _ _).alloc (Nat.le_refl _) _).alloc (by simp) _)
  have c0 := A0.out.cell 0 rfl
  have f0 := A0.out.free 0
  have c1 := A0.out.cell 1 rfl
  have f1 := A0.out.free 1
  have c2 := A0.out.cell 2 rfl
  have f2 := A0.out.free 2
  have c3 := A0.out.cell 3 rfl
  have f3 := A0.out.free 3
  have c4 := A0.out.cell 4 rfl
  have f4 := A0.out.free 4
  have c5 := A0.out.cell 5 rfl
  have f5 := A0.out.free 5
  have ce := B0.out.cell 0 rfl
  have fe := B0.out.free 0
  have hq1 := Lib.hid (below_cell G0.out hq)
  clear hq
  go_enter_defers Try.func43, Try.ntmps43
  go_wp2_with fail
  refine (HB.out _).mono ?_
  rintro e w1 ⟨rfl, rfl⟩
  go_wp2_with fail
  refine (HD.out _ hq1.out).mono ?_
  rintro e w1 ⟨bv, pv, rfl, hb, hp, g1⟩
  simp only [] at hb hp
  have A1 := Lib.hid (A0.out.kept g1)
  have B1 := Lib.hid (B0.out.kept g1)
  have G1 := Lib.hid (grow_trans G0.out g1)
  clear g1 ce fe c0 f0 c1 f1 c2 f2 c3 f3 c4 f4 c5 f5
  have HBT := Lib.hid hb
  have HPT := Lib.hid hp
  obtain ⟨m1, m2, rfl⟩ := hb.at.len
  obtain ⟨m3, m4, rfl⟩ := hp.at.len
  clear hb hp
  have c0 := A1.out.cell 0 rfl
  have f0 := A1.out.free 0
  have c1 := A1.out.cell 1 rfl
  have f1 := A1.out.free 1
  have c2 := A1.out.cell 2 rfl
  have f2 := A1.out.free 2
  have c3 := A1.out.cell 3 rfl
  have f3 := A1.out.free 3
  have c4 := A1.out.cell 4 rfl
  have f4 := A1.out.free 4
  have c5 := A1.out.cell 5 rfl
  have f5 := A1.out.free 5
  have ce := B1.out.cell 0 rfl
  have fe := B1.out.free 0
  have A2 := Lib.hid ((A1.out.sets6 (.int .i64 a) (.int .i64 r) (.slice m1 bs.length m2) (.slice m3 ps.length m4) (.int .i64 x) (.int .i64 y)).other (by omega : w.heap.size ≠ w.heap.size + 1) 0 (.int .i64 (er : Int)))
  have Bm := Lib.hid (B1.out.others6 (by omega : w.heap.size + 1 ≠ w.heap.size) (.int .i64 a) (.int .i64 r) (.slice m1 bs.length m2) (.slice m3 ps.length m4) (.int .i64 x) (.int .i64 y))
  have B2 := Lib.hid (Bm.out.set 0 (.int .i64 (er : Int)) rfl)
  have G2 := Lib.hid ((below_set6P G1.out (Nat.le_refl _) (.int .i64 a) (.int .i64 r) (.slice m1 bs.length m2) (.slice m3 ps.length m4) (.int .i64 x) (.int .i64 y)).setCell (p := ⟨w.heap.size + 1, 0, none⟩) (by simp) (.int .i64 (er : Int)))
  have A3 := Lib.hid (A2.out.alloc (.cells #[.int .i64 0] 115))
  have B3 := Lib.hid (B2.out.alloc (.cells #[.int .i64 0] 115))
  have G3 := Lib.hid (grow_trans G2.out ((Below.refl _ _).alloc (Nat.le_refl _) (.cells #[.int .i64 0] 115)))
  have K := Lib.hid (((Keeps.vsets (show VBox w1 w.heap.size 0 0 (.slice none 0 0) (.slice none 0 0) 0 0 from A1.out) a r (.slice m1 bs.length m2) (.slice m3 ps.length m4) x y).trans (Keeps.set Bm.out (by decide) 0 (.int .i64 (er : Int)))).trans (Keeps.of ((Below.refl _ _).alloc (Nat.le_refl _) (.cells #[.int .i64 0] 115))))
  go_wp2_with fail
  refine leaves_cons (f := 75) (args := #[.pointer (some ⟨w.heap.size + 1, 0, none⟩)]) (by simp) (by simp [go_sem]) ?_
  refine (catchHd_idle _ _).mono ?_
  rintro e u' w'' ⟨rfl, rfl, rfl⟩
  have d0 := A3.out.cell 0 rfl
  have d1 := A3.out.cell 1 rfl
  have d2 := A3.out.cell 2 rfl
  have d3 := A3.out.cell 3 rfl
  have d4 := A3.out.cell 4 rfl
  have d5 := A3.out.cell 5 rfl
  have de := B3.out.cell 0 rfl
  simp only [Leaves, settle]
  exact ⟨.tuple #[.agg #[.int .i64 a, .int .i64 r, .slice m1 bs.length m2, .slice m3 ps.length m4, .int .i64 x, .int .i64 y], .int .i64 er], by simp [results, Try.results43, go_sem, d0, d1, d2, d3, d4, d5, de], _, _, rfl, HBT.out.keep K.out, HPT.out.keepT K.out, G3.out⟩

set_option maxHeartbeats 4000000 in
theorem ptakeHd_no (c : UInt8) (s : List UInt8) (q : Addr) (h : Po.kind s ≠ c) (w : World) : Calls Try.prog 43 #[.int .u8 c.toNat, tx s, .func (.func 44) #[] #[.pointer (some q)]] w (TV Vt.none w) := by
  have HB := Lib.hid (fun W => pbehind_no c s h W)
  have hmf : ∀ (fn : Fn) (first cap : Array Value) (w : World), (Instr.makeFunc fn first cap).run Try.prog w = .ok (.func fn first cap) w := fun _ _ _ _ => rfl
  have A0 := Lib.hid ((Blk.new w 27 [.int .i64 0, .int .i64 0, .slice none 0 0, .slice none 0 0, .int .i64 0, .int .i64 0]).alloc (.cells #[.int .i64 0] 34))
  have B0 := Lib.hid (by have h := Blk.new (w.alloc (.cells #[.int .i64 0, .int .i64 0, .slice none 0 0, .slice none 0 0, .int .i64 0, .int .i64 0] 27)) 34 [.int .i64 0]; rwa [World.size_alloc] at h : Blk ((w.alloc (.cells #[.int .i64 0, .int .i64 0, .slice none 0 0, .slice none 0 0, .int .i64 0, .int .i64 0] 27)).alloc (.cells #[.int .i64 0] 34)) (w.heap.size + 1) 34 [.int .i64 0])
  have G0 := Lib.hid (show Below w.heap.size w ((w.alloc (.cells #[.int .i64 0, .int .i64 0, .slice none 0 0, .slice none 0 0, .int .i64 0, .int .i64 0] 27)).alloc (.cells #[.int .i64 0] 34)) from ((Below.refl _ _).alloc (Nat.le_refl _) _).alloc (by simp) _)
  have c0 := A0.out.cell 0 rfl
  have f0 := A0.out.free 0
  have c1 := A0.out.cell 1 rfl
  have f1 := A0.out.free 1
  have c2 := A0.out.cell 2 rfl
  have f2 := A0.out.free 2
  have c3 := A0.out.cell 3 rfl
  have f3 := A0.out.free 3
  have c4 := A0.out.cell 4 rfl
  have f4 := A0.out.free 4
  have c5 := A0.out.cell 5 rfl
  have f5 := A0.out.free 5
  have ce := B0.out.cell 0 rfl
  have fe := B0.out.free 0
  go_enter_defers Try.func43, Try.ntmps43
  go_wp2_with fail
  refine (HB.out _).mono ?_
  rintro e w1 ⟨rfl, rfl⟩
  go_wp2_with fail
  have B1 := Lib.hid (B0.out.alloc (.cells #[.int .i64 3] 115))
  have G1 := Lib.hid (grow_trans G0.out ((Below.refl _ _).alloc (Nat.le_refl _) (.cells #[.int .i64 3] 115)))
  have G2 := Lib.hid (G1.out.setCell (p := ⟨w.heap.size + 1, 0, none⟩) (by simp) (.int .i64 3))
  refine leaves_cons (f := 75) (args := #[.pointer (some ⟨w.heap.size + 1, 0, none⟩)]) (by simp) (by simp [go_sem]) ?_
  refine (catchHd_panicking _ (.int .i64 0) _ (B1.out.cell 0 rfl) (B1.out.free 0)).mono ?_
  rintro e u' w'' ⟨rfl, rfl, rfl⟩
  simp only [settle]
  exact ⟨.tuple #[.agg #[.int .i64 0, .int .i64 0, .slice none 0 0, .slice none 0 0, .int .i64 0, .int .i64 0], .int .i64 3], by simp [results, Try.results43, go_sem], _, _, rfl, BtsT.nil _ _, TxT.nil _ _, G2.out⟩

theorem ptakeHd (s : List UInt8) (n : Int) (q : Addr) (hs : s.length ≤ 140737488351232) (hnb : n ≤ 4294967296 ∨ s.length ≤ 4294967296) (n1 : -9223372036854775808 ≤ n) (n2 : n ≤ 9223372036854775807) (w : World) (hq : w.cell? q = some (.int .i64 n)) : Calls Try.prog 43 #[.int .u8 104, tx s, .func (.func 44) #[] #[.pointer (some q)]] w (TV (Po.takeH s n) w) := by
  by_cases h : Po.kind s = 104
  · rw [Po.takeH, if_pos h]
    cases s with
    | nil => exact absurd h (by decide)
    | cons b s =>
      obtain rfl : b = 104 := h
      simp only [List.length_cons] at hs hnb
      exact ptakeHd_yes 104 s n q (by omega) (by omega) n1 n2 w hq
  · rw [Po.takeH, if_neg h]
    exact ptakeHd_no 104 s q h w

set_option maxHeartbeats 4000000 in
theorem pTakeHeader (s : List UInt8) (n : Int) (hs : s.length ≤ 140737488351232) (hnb : n ≤ 4294967296 ∨ s.length ≤ 4294967296) (n1 : -9223372036854775808 ≤ n) (n2 : n ≤ 9223372036854775807) (w : World) : Calls Try.prog 21 #[tx s, .int .i64 n] w (TV (Po.takeH s n) w) := by
  have hmf : ∀ (fn : Fn) (first cap : Array Value) (w : World), (Instr.makeFunc fn first cap).run Try.prog w = .ok (.func fn first cap) w := fun _ _ _ _ => rfl
  have HT := Lib.hid (fun q W h => ptakeHd s n q hs hnb n1 n2 W h)
  generalize Po.takeH s n = R at *
  obtain ⟨⟨a, r, bs, ps, x, y⟩, er⟩ := R
  have N0 := Lib.hid ((Blk.new w 3 [.int .i64 n]).alloc (.cells #[.int .i64 0, .int .i64 0, .slice none 0 0, .slice none 0 0, .int .i64 0, .int .i64 0] 27))
  have A0 := Lib.hid (by have h := Blk.new (w.alloc (.cells #[.int .i64 n] 3)) 27 [.int .i64 0, .int .i64 0, .slice none 0 0, .slice none 0 0, .int .i64 0, .int .i64 0]; rwa [World.size_alloc] at h : Blk ((w.alloc (.cells #[.int .i64 n] 3)).alloc (.cells #[.int .i64 0, .int .i64 0, .slice none 0 0, .slice none 0 0, .int .i64 0, .int .i64 0] 27)) (w.heap.size + 1) 27 [.int .i64 0, .int .i64 0, .slice none 0 0, .slice none 0 0, .int .i64 0, .int .i64 0])
  have G0 := Lib.hid (show Below w.heap.size w ((w.alloc (.cells #[.int .i64 n] 3)).alloc (.cells #[.int .i64 0, .int .i64 0, .slice none 0 0, .slice none 0 0, .int .i64 0, .int .i64 0] 27)) from ((Below.refl _ _).alloc (Nat.le_refl _) _).alloc (by simp) _)
  clear hs hnb n1 n2
  go_enter Try.func21, Try.ntmps21
  go_wp2_with fail
  refine (HT.out _ _ (N0.out.cell 0 rfl)).mono ?_
  rintro e w1 ⟨bv, pv, rfl, hb, hp, g1⟩
  simp only [] at hb hp
  have A1 := Lib.hid (A0.out.kept g1)
  have G1 := Lib.hid (grow_trans G0.out g1)
  clear g1
  have HBT := Lib.hid hb
  have HPT := Lib.hid hp
  obtain ⟨m1, m2, rfl⟩ := hb.at.len
  obtain ⟨m3, m4, rfl⟩ := hp.at.len
  clear hb hp
  have c0 := A1.out.cell 0 rfl
  have f0 := A1.out.free 0
  have c1 := A1.out.cell 1 rfl
  have f1 := A1.out.free 1
  have c2 := A1.out.cell 2 rfl
  have f2 := A1.out.free 2
  have c3 := A1.out.cell 3 rfl
  have f3 := A1.out.free 3
  have c4 := A1.out.cell 4 rfl
  have f4 := A1.out.free 4
  have c5 := A1.out.cell 5 rfl
  have f5 := A1.out.free 5
  go_wp2_with fail
  refine bodyPost_ret (v := .tuple #[.agg #[.int .i64 a, .int .i64 r, .slice m1 bs.length m2, .slice m3 ps.length m4, .int .i64 x, .int .i64 y], .int .i64 er]) ?_ rfl ?_
  · have hD := A1.out.sets6 (.int .i64 a) (.int .i64 r) (.slice m1 bs.length m2) (.slice m3 ps.length m4) (.int .i64 x) (.int .i64 y)
    have d0 := hD.cell 0 rfl
    have d1 := hD.cell 1 rfl
    have d2 := hD.cell 2 rfl
    have d3 := hD.cell 3 rfl
    have d4 := hD.cell 4 rfl
    have d5 := hD.cell 5 rfl
    simp [results, Try.results21, go_sem, d0, d1, d2, d3, d4, d5]
  · have K := Keeps.vsets (show VBox w1 (w.heap.size + 1) 0 0 (.slice none 0 0) (.slice none 0 0) 0 0 from A1.out) a r (.slice m1 bs.length m2) (.slice m3 ps.length m4) x y
    exact ⟨_, _, rfl, HBT.out.keep K, HPT.out.keepT K, below_set6P G1.out (by omega) (.int .i64 a) (.int .i64 r) (.slice m1 bs.length m2) (.slice m3 ps.length m4) (.int .i64 x) (.int .i64 y)⟩

set_option maxHeartbeats 4000000 in
theorem catchPf_panicking (p : Addr) (u : Value) (w : World) (hc : (w.alloc (.cells #[.int .i64 3] 115)).cell? p = some u) (hz : (w.alloc (.cells #[.int .i64 3] 115)).frozen? p = false) :
    CallsD Try.prog 81 #[.pointer (some p)] (.panicking [pk3]) w fun e u' w' =>
      e = .returned (.tuple #[]) ∧ u' = .panicking [{ v := pk3.v, recovered := true }] ∧ w' = (w.alloc (.cells #[.int .i64 3] 115)).setCell p (.int .i64 3) := by
  have h1 := asY
  refine callsD_of_wpS Try.func81 rfl fun c₀ cs hu => ?_
  apply wpS_seq
  apply wpS_region
  simp [wpOpsS, go_sem, recoverD, hu, Try.ntmps81, Exit.thenS, h1]
  apply wpS_seq
  apply wpS_region
  simp [wpOpsS, go_sem, Exit.thenS, Array.replicate]
  refine wpS_cond (t := true) (by simp [Act.eval]) ?_
  simp only [if_true]
  apply wpS_region
  simp [wpOpsS, go_sem, hc, hz, bodyPostS, results, Try.results81]

set_option maxHeartbeats 4000000 in
theorem catchPf_idle (p : Addr) (w : World) :
    CallsD Try.prog 81 #[.pointer (some p)] .returning w fun e u' w' => e = .returned (.tuple #[]) ∧ u' = .returning ∧ w' = w.alloc (.cells #[.int .i64 0] 115) := by
  have h1 := asN
  refine callsD_of_wpS Try.func81 rfl fun c₀ cs hu => ?_
  apply wpS_seq
  apply wpS_region
  simp [wpOpsS, go_sem, recoverD, hu, Try.ntmps81, Exit.thenS, h1]
  apply wpS_seq
  apply wpS_region
  simp [wpOpsS, go_sem, Exit.thenS, Array.replicate]
  refine wpS_cond (t := false) (by simp [Act.eval]) ?_
  simp only [Bool.false_eq_true, if_false]
  refine wpS_of_wp (wp_skip ?_)
  cases c₀
  simp_all [bodyPostS, results, Try.results81]

set_option maxHeartbeats 4000000 in
theorem pdecPf (s : List UInt8) (n : Int) (q : Addr) (hs : s.length ≤ 140737488351232) (hnb : n ≤ 4294967296 ∨ s.length ≤ 4294967296) (n1 : -9223372036854775808 ≤ n) (n2 : n ≤ 9223372036854775807) (w : World) (hq : w.cell? q = some (.int .i64 n)) : Calls Try.prog 48 #[tx s, .pointer (some q)] w (PT (Cr.take s n) w) := by
  have HT := Lib.hid (fun W => pctake s n hs hnb n1 n2 W)
  generalize Cr.take s n = R at *
  obtain ⟨⟨⟨a, r, bs, ps, x, y⟩, z⟩, er⟩ := R
  have A0 := Lib.hid (Blk.new w 41 [.int .i64 0, .int .i64 0, .slice none 0 0, .slice none 0 0, .int .i64 0, .int .i64 0, .int .u64 0])
  have G0 := Lib.hid (show Below w.heap.size w (w.alloc (.cells #[.int .i64 0, .int .i64 0, .slice none 0 0, .slice none 0 0, .int .i64 0, .int .i64 0, .int .u64 0] 41)) from (Below.refl _ _).alloc (Nat.le_refl _) _)
  have hq1 := below_cell G0.out hq
  clear hs hnb n1 n2
  go_enter Try.func48, Try.ntmps48
  go_wp2_with fail
  refine (HT.out _).mono ?_
  rintro e w1 ⟨bv, pv, rfl, hb, hp, g1⟩
  simp only [] at hb hp
  have A1 := Lib.hid (A0.out.kept g1)
  have G1 := Lib.hid (grow_trans G0.out g1)
  clear g1
  have HBT := Lib.hid hb
  have HPT := Lib.hid hp
  obtain ⟨m1, m2, rfl⟩ := hb.at.len
  obtain ⟨m3, m4, rfl⟩ := hp.at.len
  clear hb hp
  have c0 := A1.out.cell 0 rfl
  have f0 := A1.out.free 0
  have c1 := A1.out.cell 1 rfl
  have f1 := A1.out.free 1
  have c2 := A1.out.cell 2 rfl
  have f2 := A1.out.free 2
  have c3 := A1.out.cell 3 rfl
  have f3 := A1.out.free 3
  have c4 := A1.out.cell 4 rfl
  have f4 := A1.out.free 4
  have c5 := A1.out.cell 5 rfl
  have f5 := A1.out.free 5
  have c6 := A1.out.cell 6 rfl
  have f6 := A1.out.free 6
  go_wp2_with fail
  refine bodyPost_ret (v := .tuple #[.agg #[.int .i64 a, .int .i64 r, .slice m1 bs.length m2, .slice m3 ps.length m4, .int .i64 x, .int .i64 y, .int .u64 z], .int .i64 er]) ?_ rfl ?_
  · have hD := A1.out.sets7 (.int .i64 a) (.int .i64 r) (.slice m1 bs.length m2) (.slice m3 ps.length m4) (.int .i64 x) (.int .i64 y) (.int .u64 z)
    have d0 := hD.cell 0 rfl
    have d1 := hD.cell 1 rfl
    have d2 := hD.cell 2 rfl
    have d3 := hD.cell 3 rfl
    have d4 := hD.cell 4 rfl
    have d5 := hD.cell 5 rfl
    have d6 := hD.cell 6 rfl
    simp [results, Try.results48, go_sem, d0, d1, d2, d3, d4, d5, d6]
  · have K := Keeps.psets (show PBox w1 w.heap.size 0 0 (.slice none 0 0) (.slice none 0 0) 0 0 0 from A1.out) a r (.slice m1 bs.length m2) (.slice m3 ps.length m4) x y z
    exact ⟨_, _, rfl, HBT.out.keep K, HPT.out.keepT K, below_set7P G1.out (Nat.le_refl _) (.int .i64 a) (.int .i64 r) (.slice m1 bs.length m2) (.slice m3 ps.length m4) (.int .i64 x) (.int .i64 y) (.int .u64 z)⟩

set_option maxHeartbeats 4000000 in
theorem ptakePf_yes (c : UInt8) (s : List UInt8) (n : Int) (q : Addr) (hs : s.length ≤ 140737488351232) (hnb : n ≤ 4294967296 ∨ s.length ≤ 4294967296) (n1 : -9223372036854775808 ≤ n) (n2 : n ≤ 9223372036854775807) (w : World) (hq : w.cell? q = some (.int .i64 n)) : Calls Try.prog 47 #[.int .u8 c.toNat, tx (c :: s), .func (.func 48) #[] #[.pointer (some q)]] w (PT (Cr.take s n) w) := by
  have HB := Lib.hid (fun W => pbehind_yes c s W)
  have HD := Lib.hid (fun W h => pdecPf s n q hs hnb n1 n2 W h)
  generalize Cr.take s n = R at *
  obtain ⟨⟨⟨a, r, bs, ps, x, y⟩, z⟩, er⟩ := R
  clear hs hnb n1 n2
  have hmf : ∀ (fn : Fn) (first cap : Array Value) (w : World), (Instr.makeFunc fn first cap).run Try.prog w = .ok (.func fn first cap) w := fun _ _ _ _ => rfl
  have A0 := Lib.hid ((Blk.new w 41 [.int .i64 0, .int .i64 0, .slice none 0 0, .slice none 0 0, .int .i64 0, .int .i64 0, .int .u64 0]).alloc (.cells #[.int .i64 0] 34))
  have B0 := Lib.hid (by have h := Blk.new (w.alloc (.cells #[.int .i64 0, .int .i64 0, .slice none 0 0, .slice none 0 0, .int .i64 0, .int .i64 0, .int .u64 0] 41)) 34 [.int .i64 0]; rwa [World.size_alloc] at h : Blk ((w.alloc (.cells #[.int .i64 0, .int .i64 0, .slice none 0 0, .slice none 0 0, .int .i64 0, .int .i64 0, .int .u64 0] 41)).alloc (.cells #[.int .i64 0] 34)) (w.heap.size + 1) 34 [.int .i64 0])
  have G0 := Lib.hid (show Below w.heap.size w ((w.alloc (.cells #[.int .i64 0, .int .i64 0, .slice none 0 0, .slice none 0 0, .int .i64 0, .int .i64 0, .int .u64 0] 41)).alloc (.cells #[.int .i64 0] 34)) from ((Below.refl _ _).alloc (Nat.le_refl _) _).alloc (by simp) _)
  have c0 := A0.out.cell 0 rfl
  have f0 := A0.out.free 0
  have c1 := A0.out.cell 1 rfl
  have f1 := A0.out.free 1
  have c2 := A0.out.cell 2 rfl
  have f2 := A0.out.free 2
  have c3 := A0.out.cell 3 rfl
  have f3 := A0.out.free 3
  have c4 := A0.out.cell 4 rfl
  have f4 := A0.out.free 4
  have c5 := A0.out.cell 5 rfl
  have f5 := A0.out.free 5
  have c6 := A0.out.cell 6 rfl
  have f6 := A0.out.free 6
  have ce := B0.out.cell 0 rfl
  have fe := B0.out.free 0
  have hq1 := Lib.hid (below_cell G0.out hq)
  clear hq
  go_enter_defers Try.func47, Try.ntmps47
  go_wp2_with fail
  refine (HB.out _).mono ?_
  rintro e w1 ⟨rfl, rfl⟩
  go_wp2_with fail
  refine (HD.out _ hq1.out).mono ?_
  rintro e w1 ⟨bv, pv, rfl, hb, hp, g1⟩
  simp only [] at hb hp
  have A1 := Lib.hid (A0.out.kept g1)
  have B1 := Lib.hid (B0.out.kept g1)
  have G1 := Lib.hid (grow_trans G0.out g1)
  clear g1 ce fe c0 f0 c1 f1 c2 f2 c3 f3 c4 f4 c5 f5 c6 f6
  have HBT := Lib.hid hb
  have HPT := Lib.hid hp
  obtain ⟨m1, m2, rfl⟩ := hb.at.len
  obtain ⟨m3, m4, rfl⟩ := hp.at.len
  clear hb hp
  have c0 := A1.out.cell 0 rfl
  have f0 := A1.out.free 0
  have c1 := A1.out.cell 1 rfl
  have f1 := A1.out.free 1
  have c2 := A1.out.cell 2 rfl
  have f2 := A1.out.free 2
  have c3 := A1.out.cell 3 rfl
  have f3 := A1.out.free 3
  have c4 := A1.out.cell 4 rfl
  have f4 := A1.out.free 4
  have c5 := A1.out.cell 5 rfl
  have f5 := A1.out.free 5
  have c6 := A1.out.cell 6 rfl
  have f6 := A1.out.free 6
  have ce := B1.out.cell 0 rfl
  have fe := B1.out.free 0
  have A2 := Lib.hid ((A1.out.sets7 (.int .i64 a) (.int .i64 r) (.slice m1 bs.length m2) (.slice m3 ps.length m4) (.int .i64 x) (.int .i64 y) (.int .u64 z)).other (by omega : w.heap.size ≠ w.heap.size + 1) 0 (.int .i64 (er : Int)))
  have Bm := Lib.hid (B1.out.others7 (by omega : w.heap.size + 1 ≠ w.heap.size) (.int .i64 a) (.int .i64 r) (.slice m1 bs.length m2) (.slice m3 ps.length m4) (.int .i64 x) (.int .i64 y) (.int .u64 z))
  have B2 := Lib.hid (Bm.out.set 0 (.int .i64 (er : Int)) rfl)
  have G2 := Lib.hid ((below_set7P G1.out (Nat.le_refl _) (.int .i64 a) (.int .i64 r) (.slice m1 bs.length m2) (.slice m3 ps.length m4) (.int .i64 x) (.int .i64 y) (.int .u64 z)).setCell (p := ⟨w.heap.size + 1, 0, none⟩) (by simp) (.int .i64 (er : Int)))
  have A3 := Lib.hid (A2.out.alloc (.cells #[.int .i64 0] 115))
  have B3 := Lib.hid (B2.out.alloc (.cells #[.int .i64 0] 115))
  have G3 := Lib.hid (grow_trans G2.out ((Below.refl _ _).alloc (Nat.le_refl _) (.cells #[.int .i64 0] 115)))
  have K := Lib.hid (((Keeps.psets (show PBox w1 w.heap.size 0 0 (.slice none 0 0) (.slice none 0 0) 0 0 0 from A1.out) a r (.slice m1 bs.length m2) (.slice m3 ps.length m4) x y z).trans (Keeps.set Bm.out (by decide) 0 (.int .i64 (er : Int)))).trans (Keeps.of ((Below.refl _ _).alloc (Nat.le_refl _) (.cells #[.int .i64 0] 115))))
  go_wp2_with fail
  refine leaves_cons (f := 81) (args := #[.pointer (some ⟨w.heap.size + 1, 0, none⟩)]) (by simp) (by simp [go_sem]) ?_
  refine (catchPf_idle _ _).mono ?_
  rintro e u' w'' ⟨rfl, rfl, rfl⟩
  have d0 := A3.out.cell 0 rfl
  have d1 := A3.out.cell 1 rfl
  have d2 := A3.out.cell 2 rfl
  have d3 := A3.out.cell 3 rfl
  have d4 := A3.out.cell 4 rfl
  have d5 := A3.out.cell 5 rfl
  have d6 := A3.out.cell 6 rfl
  have de := B3.out.cell 0 rfl
  simp only [Leaves, settle]
  exact ⟨.tuple #[.agg #[.int .i64 a, .int .i64 r, .slice m1 bs.length m2, .slice m3 ps.length m4, .int .i64 x, .int .i64 y, .int .u64 z], .int .i64 er], by simp [results, Try.results47, go_sem, d0, d1, d2, d3, d4, d5, d6, de], _, _, rfl, HBT.out.keep K.out, HPT.out.keepT K.out, G3.out⟩

set_option maxHeartbeats 4000000 in
theorem ptakePf_no (c : UInt8) (s : List UInt8) (q : Addr) (h : Po.kind s ≠ c) (w : World) : Calls Try.prog 47 #[.int .u8 c.toNat, tx s, .func (.func 48) #[] #[.pointer (some q)]] w (PT Cr.none w) := by
  have HB := Lib.hid (fun W => pbehind_no c s h W)
  have hmf : ∀ (fn : Fn) (first cap : Array Value) (w : World), (Instr.makeFunc fn first cap).run Try.prog w = .ok (.func fn first cap) w := fun _ _ _ _ => rfl
  have A0 := Lib.hid ((Blk.new w 41 [.int .i64 0, .int .i64 0, .slice none 0 0, .slice none 0 0, .int .i64 0, .int .i64 0, .int .u64 0]).alloc (.cells #[.int .i64 0] 34))
  have B0 := Lib.hid (by have h := Blk.new (w.alloc (.cells #[.int .i64 0, .int .i64 0, .slice none 0 0, .slice none 0 0, .int .i64 0, .int .i64 0, .int .u64 0] 41)) 34 [.int .i64 0]; rwa [World.size_alloc] at h : Blk ((w.alloc (.cells #[.int .i64 0, .int .i64 0, .slice none 0 0, .slice none 0 0, .int .i64 0, .int .i64 0, .int .u64 0] 41)).alloc (.cells #[.int .i64 0] 34)) (w.heap.size + 1) 34 [.int .i64 0])
  have G0 := Lib.hid (show Below w.heap.size w ((w.alloc (.cells #[.int .i64 0, .int .i64 0, .slice none 0 0, .slice none 0 0, .int .i64 0, .int .i64 0, .int .u64 0] 41)).alloc (.cells #[.int .i64 0] 34)) from ((Below.refl _ _).alloc (Nat.le_refl _) _).alloc (by simp) _)
  have c0 := A0.out.cell 0 rfl
  have f0 := A0.out.free 0
  have c1 := A0.out.cell 1 rfl
  have f1 := A0.out.free 1
  have c2 := A0.out.cell 2 rfl
  have f2 := A0.out.free 2
  have c3 := A0.out.cell 3 rfl
  have f3 := A0.out.free 3
  have c4 := A0.out.cell 4 rfl
  have f4 := A0.out.free 4
  have c5 := A0.out.cell 5 rfl
  have f5 := A0.out.free 5
  have c6 := A0.out.cell 6 rfl
  have f6 := A0.out.free 6
  have ce := B0.out.cell 0 rfl
  have fe := B0.out.free 0
  go_enter_defers Try.func47, Try.ntmps47
  go_wp2_with fail
  refine (HB.out _).mono ?_
  rintro e w1 ⟨rfl, rfl⟩
  go_wp2_with fail
  have B1 := Lib.hid (B0.out.alloc (.cells #[.int .i64 3] 115))
  have G1 := Lib.hid (grow_trans G0.out ((Below.refl _ _).alloc (Nat.le_refl _) (.cells #[.int .i64 3] 115)))
  have G2 := Lib.hid (G1.out.setCell (p := ⟨w.heap.size + 1, 0, none⟩) (by simp) (.int .i64 3))
  refine leaves_cons (f := 81) (args := #[.pointer (some ⟨w.heap.size + 1, 0, none⟩)]) (by simp) (by simp [go_sem]) ?_
  refine (catchPf_panicking _ (.int .i64 0) _ (B1.out.cell 0 rfl) (B1.out.free 0)).mono ?_
  rintro e u' w'' ⟨rfl, rfl, rfl⟩
  simp only [settle]
  exact ⟨.tuple #[.agg #[.int .i64 0, .int .i64 0, .slice none 0 0, .slice none 0 0, .int .i64 0, .int .i64 0, .int .u64 0], .int .i64 3], by simp [results, Try.results47, go_sem], _, _, rfl, BtsT.nil _ _, TxT.nil _ _, G2.out⟩

theorem ptakePf (s : List UInt8) (n : Int) (q : Addr) (hs : s.length ≤ 140737488351232) (hnb : n ≤ 4294967296 ∨ s.length ≤ 4294967296) (n1 : -9223372036854775808 ≤ n) (n2 : n ≤ 9223372036854775807) (w : World) (hq : w.cell? q = some (.int .i64 n)) : Calls Try.prog 47 #[.int .u8 99, tx s, .func (.func 48) #[] #[.pointer (some q)]] w (PT (Po.takeC s n) w) := by
  by_cases h : Po.kind s = 99
  · rw [Po.takeC, if_pos h]
    cases s with
    | nil => exact absurd h (by decide)
    | cons b s =>
      obtain rfl : b = 99 := h
      simp only [List.length_cons] at hs hnb
      exact ptakePf_yes 99 s n q (by omega) (by omega) n1 n2 w hq
  · rw [Po.takeC, if_neg h]
    exact ptakePf_no 99 s q h w

set_option maxHeartbeats 4000000 in
theorem pTakeProof (s : List UInt8) (n : Int) (hs : s.length ≤ 140737488351232) (hnb : n ≤ 4294967296 ∨ s.length ≤ 4294967296) (n1 : -9223372036854775808 ≤ n) (n2 : n ≤ 9223372036854775807) (w : World) : Calls Try.prog 23 #[tx s, .int .i64 n] w (PT (Po.takeC s n) w) := by
  have hmf : ∀ (fn : Fn) (first cap : Array Value) (w : World), (Instr.makeFunc fn first cap).run Try.prog w = .ok (.func fn first cap) w := fun _ _ _ _ => rfl
  have HT := Lib.hid (fun q W h => ptakePf s n q hs hnb n1 n2 W h)
  generalize Po.takeC s n = R at *
  obtain ⟨⟨⟨a, r, bs, ps, x, y⟩, z⟩, er⟩ := R
  have N0 := Lib.hid ((Blk.new w 3 [.int .i64 n]).alloc (.cells #[.int .i64 0, .int .i64 0, .slice none 0 0, .slice none 0 0, .int .i64 0, .int .i64 0, .int .u64 0] 41))
  have A0 := Lib.hid (by have h := Blk.new (w.alloc (.cells #[.int .i64 n] 3)) 41 [.int .i64 0, .int .i64 0, .slice none 0 0, .slice none 0 0, .int .i64 0, .int .i64 0, .int .u64 0]; rwa [World.size_alloc] at h : Blk ((w.alloc (.cells #[.int .i64 n] 3)).alloc (.cells #[.int .i64 0, .int .i64 0, .slice none 0 0, .slice none 0 0, .int .i64 0, .int .i64 0, .int .u64 0] 41)) (w.heap.size + 1) 41 [.int .i64 0, .int .i64 0, .slice none 0 0, .slice none 0 0, .int .i64 0, .int .i64 0, .int .u64 0])
  have G0 := Lib.hid (show Below w.heap.size w ((w.alloc (.cells #[.int .i64 n] 3)).alloc (.cells #[.int .i64 0, .int .i64 0, .slice none 0 0, .slice none 0 0, .int .i64 0, .int .i64 0, .int .u64 0] 41)) from ((Below.refl _ _).alloc (Nat.le_refl _) _).alloc (by simp) _)
  clear hs hnb n1 n2
  go_enter Try.func23, Try.ntmps23
  go_wp2_with fail
  refine (HT.out _ _ (N0.out.cell 0 rfl)).mono ?_
  rintro e w1 ⟨bv, pv, rfl, hb, hp, g1⟩
  simp only [] at hb hp
  have A1 := Lib.hid (A0.out.kept g1)
  have G1 := Lib.hid (grow_trans G0.out g1)
  clear g1
  have HBT := Lib.hid hb
  have HPT := Lib.hid hp
  obtain ⟨m1, m2, rfl⟩ := hb.at.len
  obtain ⟨m3, m4, rfl⟩ := hp.at.len
  clear hb hp
  have c0 := A1.out.cell 0 rfl
  have f0 := A1.out.free 0
  have c1 := A1.out.cell 1 rfl
  have f1 := A1.out.free 1
  have c2 := A1.out.cell 2 rfl
  have f2 := A1.out.free 2
  have c3 := A1.out.cell 3 rfl
  have f3 := A1.out.free 3
  have c4 := A1.out.cell 4 rfl
  have f4 := A1.out.free 4
  have c5 := A1.out.cell 5 rfl
  have f5 := A1.out.free 5
  have c6 := A1.out.cell 6 rfl
  have f6 := A1.out.free 6
  go_wp2_with fail
  refine bodyPost_ret (v := .tuple #[.agg #[.int .i64 a, .int .i64 r, .slice m1 bs.length m2, .slice m3 ps.length m4, .int .i64 x, .int .i64 y, .int .u64 z], .int .i64 er]) ?_ rfl ?_
  · have hD := A1.out.sets7 (.int .i64 a) (.int .i64 r) (.slice m1 bs.length m2) (.slice m3 ps.length m4) (.int .i64 x) (.int .i64 y) (.int .u64 z)
    have d0 := hD.cell 0 rfl
    have d1 := hD.cell 1 rfl
    have d2 := hD.cell 2 rfl
    have d3 := hD.cell 3 rfl
    have d4 := hD.cell 4 rfl
    have d5 := hD.cell 5 rfl
    have d6 := hD.cell 6 rfl
    simp [results, Try.results23, go_sem, d0, d1, d2, d3, d4, d5, d6]
  · have K := Keeps.psets (show PBox w1 (w.heap.size + 1) 0 0 (.slice none 0 0) (.slice none 0 0) 0 0 0 from A1.out) a r (.slice m1 bs.length m2) (.slice m3 ps.length m4) x y z
    exact ⟨_, _, rfl, HBT.out.keep K, HPT.out.keepT K, below_set7P G1.out (by omega) (.int .i64 a) (.int .i64 r) (.slice m1 bs.length m2) (.slice m3 ps.length m4) (.int .i64 x) (.int .i64 y) (.int .u64 z)⟩
end Go.Proofs.Ytbkpekpajeaacaa
