/- The statements' example. (Written by gen-cutshown.py.) -/
import Derived.Test.YtldhkgelifmipaaDoorCutFeed
namespace Ct
theorem nxt0 : nxt 0 = 1 := by decide
theorem nxt1 : nxt 1 = 2 := by decide
theorem shown_feed (D : Blk → Tx) (N : Int → Int) : feed D N (0, [], []) [[49], [50], [51], [52], [53], [54], [55]] = ((N 0, D (0, [], [[49], [50], [51], [52], [53], [54]]), [[55]]), [(0, [], [[49], [50], [51], [52], [53], [54]])]) := by
  simp [feed, step, fits, total]
end Ct
namespace Go.Proofs.YtldhkgelifmipaaDoor
open Go.RowKit
set_option maxHeartbeats 4000000 in
set_option maxRecDepth 100000 in
theorem cshown (w : World) (hw : GW w) : Calls Tryd.prog 10 #[] w fun e w' => e = .returned (.bool true) ∧ Below w.heap.size w w' := by
  have hA : Below w.heap.size w (w.alloc (.cells #[.string ⟨#[49]⟩, .string ⟨#[50]⟩, .string ⟨#[51]⟩, .string ⟨#[52]⟩, .string ⟨#[53]⟩, .string ⟨#[54]⟩, .string ⟨#[55]⟩] 9)) := (Below.refl _ _).alloc (Nat.le_refl _) _
  have hT : TxAt (w.alloc (.cells #[.string ⟨#[49]⟩, .string ⟨#[50]⟩, .string ⟨#[51]⟩, .string ⟨#[52]⟩, .string ⟨#[53]⟩, .string ⟨#[54]⟩, .string ⟨#[55]⟩] 9)) (.slice (some ⟨w.heap.size, 0, none⟩) 7 7) [[49], [50], [51], [52], [53], [54], [55]] := .inr ⟨w.heap.size, 0, 7, rfl, fun i hi => by
    have hc : (w.alloc (.cells #[.string ⟨#[49]⟩, .string ⟨#[50]⟩, .string ⟨#[51]⟩, .string ⟨#[52]⟩, .string ⟨#[53]⟩, .string ⟨#[54]⟩, .string ⟨#[55]⟩] 9)).cell? ⟨w.heap.size, 0 + i, none⟩ = (#[.string ⟨#[49]⟩, .string ⟨#[50]⟩, .string ⟨#[51]⟩, .string ⟨#[52]⟩, .string ⟨#[53]⟩, .string ⟨#[54]⟩, .string ⟨#[55]⟩] : Array Value)[0 + i]? := by
      rw [World.cell?_alloc_at _ _ _ _ rfl]
    rw [hc]
    have h7 : i < 7 := hi
    match i, h7 with
    | 0, _ => rfl
    | 1, _ => rfl
    | 2, _ => rfl
    | 3, _ => rfl
    | 4, _ => rfl
    | 5, _ => rfl
    | 6, _ => rfl⟩
  have hfd := pcfeed (0, [], []) [[49], [50], [51], [52], [53], [54], [55]] (.slice none 0 0) (.slice (some ⟨w.heap.size, 0, none⟩) 7 7) (w.alloc (.cells #[.string ⟨#[49]⟩, .string ⟨#[50]⟩, .string ⟨#[51]⟩, .string ⟨#[52]⟩, .string ⟨#[53]⟩, .string ⟨#[54]⟩, .string ⟨#[55]⟩] 9)) (.inl ⟨_, _, rfl, rfl⟩) hT (by decide) (by decide) (by decide) (hw.below hA)
  rw [Ct.shown_feed, Ct.nxt0] at hfd
  have hfl := fun (d : List UInt8) (hd : d.length ≤ 1073741824) (u : Value) (W : World) (hu : TxAt W u [[55]]) (hG : GW W) => pcflush (1, d, [[55]]) u W hu (fit_of (c := (1, d, [[55]])) (by show Dg.sizes [[55]] ≤ _; decide) hd) (show (1 : Int) ≤ 9223372036854775807 by decide) (by simp) hG
  have hdl : (Ct.dig (0, [], [[49], [50], [51], [52], [53], [54]])).length ≤ 1073741824 := by rw [Ct.dig, Ct.sum_len]; decide
  obtain ⟨d, hd⟩ : ∃ d, Ct.dig (0, [], [[49], [50], [51], [52], [53], [54]]) = d := ⟨_, rfl⟩
  rw [hd] at hfd hdl
  simp only [Ct.nxt1, iv] at hfl
  simp only [blkV, iv] at hfd
  have HFD := Lib.hid hfd
  have HFL := Lib.hid hfl
  have HDL := Lib.hid hdl
  have HA := Lib.hid hA
  have HW := Lib.hid hw
  clear hfd hfl hdl hA hT hd hw
  go_enter Tryd.func10, Tryd.ntmps10
  go_wp2_with fail
  refine HFD.out.mono ?_
  rintro e w2 ⟨uT, bv, cs, rfl, hu, hrow, hbs, hb⟩
  have hb2 := HA.out.trans (hb.mono (by simp))
  obtain ⟨ua, uc, rfl⟩ := hu.len
  have hblk : BlkAt w2 bv [(0, [], [[49], [50], [51], [52], [53], [54]])] := ⟨cs, FlatAt.own hrow, hbs.all (Nat.le_refl _)⟩
  rcases hblk.cells with ⟨h, _⟩ | ⟨_, b, off, cap, rfl, hc⟩
  · cases h
  obtain ⟨u0, _, _, g2, g3⟩ := hc 0 (by decide)
  obtain ⟨a0, c0, rfl⟩ := g3.len
  have G2 := Lib.hid (show w2.cell? ⟨b, off + 2, none⟩ = some (.slice a0 6 c0) by simpa using g2)
  have HB2 := Lib.hid hb2
  have HU := Lib.hid hu
  clear hb hrow hbs hblk hc g2 g3 hb2 hu HFD HA
  obtain ⟨wP, hwP⟩ : ∃ x, World.alloc w2 (.cells #[.int .i64 0, .string ⟨#[]⟩, .slice none 0 0] 24) = x := ⟨_, rfl⟩
  obtain ⟨H, hH⟩ : ∃ x, (World.heap w2).size = x := ⟨_, rfl⟩
  have hP : Below (World.heap w2).size w2 wP := by rw [← hwP]; exact (Below.refl _ _).alloc (Nat.le_refl _) _
  have kP : KBox wP H 24 (.int .i64 0) (.string ⟨#[]⟩) (.slice none 0 0) := by rw [← hwP, ← hH]; exact KBox.new _ _ _ _ _
  obtain ⟨p0, p1, p2⟩ := kP.cells
  obtain ⟨f0, f1, f2⟩ := kP.free
  obtain ⟨wQ, hwQ⟩ : ∃ x, World.setCell (World.setCell (World.setCell wP ⟨H, 0, none⟩ (.int .i64 1)) ⟨H, 1, none⟩ (tx d)) ⟨H, 2, none⟩ (.slice ua 1 uc) = x := ⟨_, rfl⟩
  have hbQ : Below (World.heap w2).size w2 wQ := by rw [← hwQ]; exact below_set3 hP (by omega) _ _ _
  have kQ : KBox wQ H 24 (.int .i64 1) (tx d) (.slice ua 1 uc) := by rw [← hwQ]; exact kP.set _ _ _
  obtain ⟨q0, q1, q2⟩ := kQ.cells
  have HBQ := Lib.hid hbQ
  clear kP hP hbQ
  have HKQ := Lib.hid kQ
  clear kQ
  go_wp2_with fail
  refine (HFL.out d HDL.out _ _ (HU.out.below HBQ.out) (HW.out.below (grow_trans HB2.out HBQ.out))).mono ?_
  rintro e w3 ⟨g, uc2, rfl, kg, kt, _, h3⟩
  have hb3 := grow_trans (grow_trans HB2.out HBQ.out) h3
  have g3 := below_cell h3 (below_cell HBQ.out G2.out)
  obtain ⟨a2, c2, rfl⟩ := kt.len
  obtain ⟨d2, hd2⟩ : ∃ x, Ct.dig (1, d, [[55]]) = x := ⟨_, rfl⟩
  simp only [hd2]
  clear p0 p1 p2 f0 f1 f2 q0 q1 q2 hwP hwQ hH kt hd2
  obtain ⟨wP', hwP'⟩ : ∃ x, World.alloc w3 (.cells #[.int .i64 0, .string ⟨#[]⟩, .slice none 0 0] 24) = x := ⟨_, rfl⟩
  obtain ⟨H', hH'⟩ : ∃ x, (World.heap w3).size = x := ⟨_, rfl⟩
  have hP' : Below (World.heap w3).size w3 wP' := by rw [← hwP']; exact (Below.refl _ _).alloc (Nat.le_refl _) _
  have kP' : KBox wP' H' 24 (.int .i64 0) (.string ⟨#[]⟩) (.slice none 0 0) := by rw [← hwP', ← hH']; exact KBox.new _ _ _ _ _
  obtain ⟨p0', p1', p2'⟩ := kP'.cells
  obtain ⟨f0', f1', f2'⟩ := kP'.free
  obtain ⟨wQ', hwQ'⟩ : ∃ x, World.setCell (World.setCell (World.setCell wP' ⟨H', 0, none⟩ (.int .i64 2)) ⟨H', 1, none⟩ (tx d2)) ⟨H', 2, none⟩ (.slice none 0 0) = x := ⟨_, rfl⟩
  have hbQ' : Below (World.heap w3).size w3 wQ' := by rw [← hwQ']; exact below_set3 hP' (by omega) _ _ _
  have kQ' : KBox wQ' H' 24 (.int .i64 2) (tx d2) (.slice none 0 0) := by rw [← hwQ']; exact kP'.set _ _ _
  obtain ⟨q0', q1', q2'⟩ := kQ'.cells
  have HB := Lib.hid (grow_trans hb3 hbQ')
  have r2 := below_cell hbQ' g3
  have kg' := kg.kept hbQ'
  obtain ⟨_, _, s2⟩ := kg'.cells
  clear kP' hP' hbQ' kg kg' kQ' g3 hb3 h3
  go_wp2_with fail
  go_ret
  exact ⟨rfl, HB.out⟩
end Go.Proofs.YtldhkgelifmipaaDoor
