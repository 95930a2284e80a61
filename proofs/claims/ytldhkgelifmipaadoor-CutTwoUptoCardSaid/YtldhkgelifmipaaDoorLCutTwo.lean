/- CutTwo. (Written by gen-lcuttwo.py.) -/
import Derived.Test.YtldhkgelifmipaaDoorCutOpen
import Derived.Test.YtldhkgelifmipaaDoorCutShown
import Derived.Test.YtldhkgelifmipaaDoorLCutFull
namespace Go.Proofs.YtldhkgelifmipaaDoor
open Go.RowKit Go.ChangeShapes Go.WideShapes Go.ChangeAt

set_option maxHeartbeats 8000000 in
set_option maxRecDepth 100000 in
theorem cutTwo_more (c : Ct.Blk) (u va vb : Value) (a b : List (List UInt8)) (w : World) (hu : TxAt w u c.2.2) (ha : TxAt w va a) (hb : TxAt w vb b) (hw : GW w) (hl : c.2.2.length ≤ 4398046511104 ∧ a.length ≤ 4398046511104 ∧ b.length ≤ 4398046511104) (hm : 200 < a.length + b.length ∨ 200 < c.2.2.length) :
    Calls Tryd.prog 8 #[blkV c u, va, vb] w fun e w' => e = .returned (.bool true) ∧ Below w.heap.size w w' := by
  obtain ⟨n, p, ls⟩ := c
  simp only at hu hl hm
  obtain ⟨au, cu, rfl⟩ := hu.len
  obtain ⟨aa, ca, rfl⟩ := ha.len
  obtain ⟨ab, cb, rfl⟩ := hb.len
  obtain ⟨la, hla⟩ : ∃ la, a.length = la := ⟨_, rfl⟩
  obtain ⟨lb, hlb⟩ : ∃ lb, b.length = lb := ⟨_, rfl⟩
  obtain ⟨lc, hlc⟩ : ∃ lc, ls.length = lc := ⟨_, rfl⟩
  rw [hla, hlb, hlc] at hl
  rw [hla, hlb, hlc] at hm
  rw [hla, hlb, hlc]
  clear hu ha hb hla hlb hlc
  have hwl : IntKind.i64.wrap ((la : Int) + (lb : Int)) = (la : Int) + (lb : Int) := IntWalk.i64_in _ ⟨by omega, by omega⟩
  obtain ⟨C, hC⟩ : ∃ C, w.heap.size = C := ⟨_, rfl⟩
  obtain ⟨w0, hw0⟩ : ∃ w0, w.alloc (.cells #[iv n, tx p, .slice au lc cu] 24) = w0 := ⟨_, rfl⟩
  have g0 : Below w.heap.size w w0 := by rw [← hw0]; exact (Below.refl _ _).alloc (Nat.le_refl _) _
  have kc : KBox w0 C 24 (.int .i64 n) (tx p) (.slice au lc cu) := by
    rw [← hw0, ← hC]
    exact KBox.new w 24 (.int .i64 n) (tx p) (.slice au lc cu)
  have HG := Lib.hid g0
  have HW := Lib.hid (hw.below g0)
  clear hw g0
  go_enter Tryd.func8, Tryd.ntmps8
  go_wp2_with fail
  refine (cshown _ HW.out).mono ?_
  rintro e w1 ⟨rfl, h1⟩
  obtain ⟨c0, c1, c2⟩ := (kc.kept h1).cells
  have HB := Lib.hid (grow_trans HG.out h1)
  clear kc h1 HG HW hw0
  by_cases hab : 200 < la + lb
  · have t1 : decide ((200 : Int) < (la : Int) + (lb : Int)) = true := by rw [decide_eq_true_iff]; omega
    go_wp2_with fail
    go_ret
    exact ⟨rfl, HB.out⟩
  · have t1 : decide ((200 : Int) < (la : Int) + (lb : Int)) = false := by rw [decide_eq_false_iff_not]; omega
    have t2 : decide ((200 : Int) < (lc : Int)) = true := by rw [decide_eq_true_iff]; omega
    go_wp2_with fail
    go_ret
    exact ⟨rfl, HB.out⟩

set_option maxHeartbeats 16000000 in
set_option maxRecDepth 100000 in
theorem cutTwo_core (c : Ct.Blk) (u va vb : Value) (a b : List (List UInt8)) (w : World) (hu : TxAt w u c.2.2) (ha : TxAt w va a) (hb : TxAt w vb b) (hsa : Src w va a.length (a.map tx)) (hsb : Src w vb b.length (b.map tx)) (hw : GW w) (hn : c.1 ≤ 9223372036854775807) (hp : c.2.1.length ≤ 1048576)
    (hsz : Dg.sizes c.2.2 + Dg.sizes a + Dg.sizes b ≤ 4194304) (hab : a.length + b.length ≤ 200) (hlc : c.2.2.length ≤ 200) :
    Calls Tryd.prog 8 #[blkV c u, va, vb] w fun e w' => e = .returned (.bool true) ∧ Below w.heap.size w w' := by
  obtain ⟨i0, hi, hz0, hz1, hz2⟩ := info_parts info_txt
  obtain ⟨i1, gi, gz0, gz1, gz2⟩ := info_parts info_blk
  have happ := Ct.feed_app Ct.dig Ct.nxt c a b
  obtain ⟨s1, s2, s3⟩ := Ct.feed_fit c a (by omega) hn a.length (Nat.le_refl _)
  have ln1 := (Ct.feed_len Ct.dig Ct.nxt c a a.length (Nat.le_refl _)).1
  rw [List.take_length] at s1 s2 s3 ln1
  have htx := Ct.feed_texts Ct.dig Ct.nxt c (a ++ b)
  have hsab := Ct.sizes_app a b
  have HF1 := Lib.hid (fun (W : World) (hu : TxAt W u c.2.2) (hv : TxAt W va a) hG => pcfeed c a u va W hu hv (by omega) (by omega) hn hG)
  have HF3 := Lib.hid (fun (v3 : Value) (W : World) (hu : TxAt W u c.2.2) (hv : TxAt W v3 (a ++ b)) hG => pcfeed c (a ++ b) u v3 W hu hv (by omega) (by omega) hn hG)
  have hlx := Dg.sizes_len (c.2.2 ++ (a ++ b))
  rw [Ct.sizes_app, hsab] at hlx
  obtain ⟨n1, p1, l1, o1, hx1⟩ : ∃ n1 p1 l1 o1, Ct.feed Ct.dig Ct.nxt c a = ((n1, p1, l1), o1) := ⟨_, _, _, _, rfl⟩
  rw [hx1] at happ s1 s2 s3 ln1 HF1
  simp only at happ s1 s2 s3 ln1
  obtain ⟨_, s5, _⟩ := Ct.feed_fit (n1, p1, l1) b s2 s3 b.length (Nat.le_refl _)
  have ln2 := (Ct.feed_len Ct.dig Ct.nxt (n1, p1, l1) b b.length (Nat.le_refl _)).1
  rw [List.take_length] at s5 ln2
  have HF2 := Lib.hid (fun (u1 : Value) (W : World) (hu : TxAt W u1 l1) (hv : TxAt W vb b) hG => pcfeed (n1, p1, l1) b u1 vb W hu hv (by show Dg.sizes l1 + _ ≤ _; omega) s2 s3 hG)
  obtain ⟨n2, p2, l2, o2, hx2⟩ : ∃ n2 p2 l2 o2, Ct.feed Ct.dig Ct.nxt (n1, p1, l1) b = ((n2, p2, l2), o2) := ⟨_, _, _, _, rfl⟩
  rw [hx2] at happ ln2 HF2
  simp only at happ ln2
  rw [happ] at HF3 htx
  simp only at htx
  have hlens : (Ct.texts (o1 ++ o2)).length + l2.length ≤ 4194304 := by rw [← List.length_append, htx]; omega
  have HBL := Lib.hid (fun x (h : x ∈ o1 ++ o2) => show x.2.2.length ≤ 1099511627776 from by have := (Ct.texts_mem (o1 ++ o2) x h).2; omega)
  have hl2 : l2.length ≤ 4194304 := by omega
  have hob : (o1 ++ o2).length ≤ 400 := by rw [List.length_append]; omega
  obtain ⟨n, p, ls⟩ := c
  simp only at hu hn hp hlc HF1 HF3
  simp only [blkV, iv] at HF1 HF2 HF3
  obtain ⟨au, cu, rfl⟩ := hu.len
  obtain ⟨aa, ca, rfl⟩ := ha.len
  obtain ⟨ab, cb, rfl⟩ := hb.len
  obtain ⟨C, hC⟩ : ∃ C, w.heap.size = C := ⟨_, rfl⟩
  obtain ⟨w0, hw0⟩ : ∃ w0, w.alloc (.cells #[iv n, tx p, .slice au ls.length cu] 24) = w0 := ⟨_, rfl⟩
  have g0 : Below w.heap.size w w0 := by rw [← hw0]; exact (Below.refl _ _).alloc (Nat.le_refl _) _
  have kc : KBox w0 C 24 (.int .i64 n) (tx p) (.slice au ls.length cu) := by
    rw [← hw0, ← hC]
    exact KBox.new w 24 (.int .i64 n) (tx p) (.slice au ls.length cu)
  have HW := Lib.hid (hw.below g0)
  have HU := Lib.hid (hu.below g0)
  have HA := Lib.hid (ha.below g0)
  have HBB := Lib.hid (hb.below g0)
  have HSA := Lib.hid (hsa.below g0)
  have HSB := Lib.hid (hsb.below g0)
  have HG := Lib.hid g0
  have HKC := Lib.hid kc
  have hwl : IntKind.i64.wrap ((a.length : Int) + (b.length : Int)) = (a.length : Int) + (b.length : Int) := IntWalk.i64_in _ ⟨by omega, by omega⟩
  have t1 : decide ((200 : Int) < (a.length : Int) + (b.length : Int)) = false := by rw [decide_eq_false_iff_not]; omega
  have t2 : decide ((200 : Int) < (ls.length : Int)) = false := by rw [decide_eq_false_iff_not]; omega
  clear hu ha hb hsa hsb hw g0 kc happ htx hlens hx1 hx2 s1 s2 s3 s5 hsab hlx hn hp hsz
  go_enter Tryd.func8, Tryd.ntmps8
  go_wp2_with fail
  refine (cshown _ HW.out).mono ?_
  rintro e w1 ⟨rfl, h1⟩
  obtain ⟨c0, c1, c2⟩ := (HKC.out.kept h1).cells
  have HB1 := Lib.hid h1
  clear h1 hw0
  go_wp2_with fail
  refine (HF1.out _ (HU.out.below HB1.out) (HA.out.below HB1.out) (HW.out.below HB1.out)).mono ?_
  rintro e w2 ⟨u1, r1, cs1, rfl, hu1, hr1, hb1, h2⟩
  obtain ⟨au1, cu1, rfl⟩ := hu1.len
  have HB2 := Lib.hid (grow_trans HB1.out h2)
  have HU1 := Lib.hid hu1
  have HR1 := Lib.hid hr1
  have HK1 := Lib.hid hb1
  clear c0 c1 c2 hu1 hr1 hb1 h2 HF1
  obtain ⟨wPa, hwPa⟩ : ∃ x, World.alloc w2 (.cells #[.int .i64 0, .string ⟨#[]⟩, .slice none 0 0] 24) = x := ⟨_, rfl⟩
  obtain ⟨Ha, hHa⟩ : ∃ x, (World.heap w2).size = x := ⟨_, rfl⟩
  have hPa : Below (World.heap w2).size w2 wPa := by rw [← hwPa]; exact (Below.refl _ _).alloc (Nat.le_refl _) _
  have kPa : KBox wPa Ha 24 (.int .i64 0) (.string ⟨#[]⟩) (.slice none 0 0) := by rw [← hwPa, ← hHa]; exact KBox.new _ _ _ _ _
  obtain ⟨p0a, p1a, p2a⟩ := kPa.cells
  obtain ⟨f0a, f1a, f2a⟩ := kPa.free
  obtain ⟨wQa, hwQa⟩ : ∃ x, World.setCell (World.setCell (World.setCell wPa ⟨Ha, 0, none⟩ (.int .i64 n1)) ⟨Ha, 1, none⟩ (tx p1)) ⟨Ha, 2, none⟩ (.slice au1 l1.length cu1) = x := ⟨_, rfl⟩
  have hbQa : Below (World.heap w2).size w2 wQa := by rw [← hwQa]; exact below_set3 hPa (by omega) _ _ _
  have kQa : KBox wQa Ha 24 (.int .i64 n1) (tx p1) (.slice au1 l1.length cu1) := by rw [← hwQa]; exact kPa.set _ _ _
  obtain ⟨q0a, q1a, q2a⟩ := kQa.cells
  have HBa := Lib.hid hbQa
  have HBA := Lib.hid (grow_trans HB2.out hbQa)
  clear kPa hPa hbQa kQa
  go_wp2_with fail
  refine (HF2.out _ _ (HU1.out.below HBa.out) (HBB.out.below HBA.out) (HW.out.below HBA.out)).mono ?_
  rintro e w3 ⟨u2, r2, cs2, rfl, hu2, hr2, hb2, h3⟩
  obtain ⟨au2, cu2, rfl⟩ := hu2.len
  have HB3 := Lib.hid (grow_trans HBA.out h3)
  have HU2 := Lib.hid hu2
  have HR2 := Lib.hid hr2
  have HK2 := Lib.hid hb2
  have HB13 := Lib.hid (grow_trans HBa.out h3)
  clear p0a p1a p2a f0a f1a f2a q0a q1a q2a hwPa hwQa hHa hu2 hr2 hb2 h3 HF2 HU1
  obtain ⟨wPb, hwPb⟩ : ∃ x, World.alloc w3 (.cells #[.int .i64 0, .string ⟨#[]⟩, .slice none 0 0] 24) = x := ⟨_, rfl⟩
  obtain ⟨Hb, hHb⟩ : ∃ x, (World.heap w3).size = x := ⟨_, rfl⟩
  have hPb : Below (World.heap w3).size w3 wPb := by rw [← hwPb]; exact (Below.refl _ _).alloc (Nat.le_refl _) _
  have kPb : KBox wPb Hb 24 (.int .i64 0) (.string ⟨#[]⟩) (.slice none 0 0) := by rw [← hwPb, ← hHb]; exact KBox.new _ _ _ _ _
  obtain ⟨p0b, p1b, p2b⟩ := kPb.cells
  obtain ⟨f0b, f1b, f2b⟩ := kPb.free
  obtain ⟨wQb, hwQb⟩ : ∃ x, World.setCell (World.setCell (World.setCell wPb ⟨Hb, 0, none⟩ (.int .i64 n2)) ⟨Hb, 1, none⟩ (tx p2)) ⟨Hb, 2, none⟩ (.slice au2 l2.length cu2) = x := ⟨_, rfl⟩
  have hbQb : Below (World.heap w3).size w3 wQb := by rw [← hwQb]; exact below_set3 hPb (by omega) _ _ _
  have kQb : KBox wQb Hb 24 (.int .i64 n2) (tx p2) (.slice au2 l2.length cu2) := by rw [← hwQb]; exact kPb.set _ _ _
  obtain ⟨q0b, q1b, q2b⟩ := kQb.cells
  have HBb := Lib.hid hbQb
  have HB4 := Lib.hid (grow_trans HB3.out hbQb)
  have HKb := Lib.hid kQb
  clear kPb hPb hbQb kQb
  have HL0 := Lib.hid (World.ownsRow_lit (base := wQb.heap.size) (e := 9) (size := 1) wQb #[] 0 (Nat.le_refl _) (by decide) rfl)
  have HA4 := Lib.hid (HSA.out.below (HB4.out.alloc HB4.out.size (.cells #[] 9)))
  go_wp2_with (first
    | (at_builtin; refine append_src rfl _ _ 22 rfl wQb.heap.size 9 i0 (.string ⟨#[]⟩) 1 16 Tryd.underlying22 hi hz0 hz1 hz2 rfl (by decide) _ 0 [] rfl HL0.out _ a.length (a.map tx) rfl (by simp) HA4.out (txs_one a) (by unfold maxLen; omega) (by omega) (by simp) ?_; intro v5 w5 hown5 hg5; have HO5 := Lib.hid hown5; have HB5 := Lib.hid (((Below.refl wQb.heap.size wQb).alloc (Nat.le_refl _) (.cells #[] 9)).grown hg5 (by simp) (fun k hk => (HL0.out.lt k hk).1)); have HS5 := Lib.hid (HSB.out.below (grow_trans HB4.out HB5.out)); clear hown5 hg5)
    | (at_builtin; refine append_src rfl _ _ 22 rfl wQb.heap.size 9 i0 (.string ⟨#[]⟩) 1 16 Tryd.underlying22 hi hz0 hz1 hz2 rfl (by decide) _ _ _ rfl HO5.out _ b.length (b.map tx) rfl (by simp) HS5.out (txs_one b) (by unfold maxLen; omega) (by omega) HB5.out.size ?_; intro v6 w6 hown6 hg6; have HO6 := Lib.hid hown6; have HB6 := Lib.hid (HB5.out.grown hg6 HB5.out.size (fun k hk => (HO5.out.lt k hk).1)); have HB46 := Lib.hid (grow_trans HB4.out HB6.out); obtain ⟨c0, c1, c2⟩ := (HKC.out.kept HB46.out).cells; clear hown6 hg6))
  have hall : TxAt w6 v6 (a ++ b) := TxAt.own (n := 0 + a.length + b.length) (base := wQb.heap.size) (t := 9) (by rw [List.map_append]; simpa using HO6.out)
  refine (HF3.out _ _ (HU.out.below HB46.out) hall (HW.out.below HB46.out)).mono ?_
  rintro e w7 ⟨u3, r3, cs3, rfl, hu3, hr3, hb3, h7⟩
  obtain ⟨au3, cu3, rfl⟩ := hu3.len
  have HB7 := Lib.hid (grow_trans HB46.out h7)
  have HU3 := Lib.hid hu3
  have HK3 := Lib.hid (show BlkAt w7 r3 (o1 ++ o2) from ⟨cs3, FlatAt.own hr3, hb3.all (Nat.le_refl _)⟩)
  have HB67 := Lib.hid (grow_trans HB6.out h7)
  clear p0b p1b p2b f0b f1b f2b q0b q1b q2b hwPb hwQb hHb hall hu3 hr3 hb3 h7 HF3 HO5 HO6 HS5 HL0 HA4 HB5 c0 c1 c2
  obtain ⟨wPc, hwPc⟩ : ∃ x, World.alloc w7 (.cells #[.int .i64 0, .string ⟨#[]⟩, .slice none 0 0] 24) = x := ⟨_, rfl⟩
  obtain ⟨Hc, hHc⟩ : ∃ x, (World.heap w7).size = x := ⟨_, rfl⟩
  have hPc : Below (World.heap w7).size w7 wPc := by rw [← hwPc]; exact (Below.refl _ _).alloc (Nat.le_refl _) _
  have kPc : KBox wPc Hc 24 (.int .i64 0) (.string ⟨#[]⟩) (.slice none 0 0) := by rw [← hwPc, ← hHc]; exact KBox.new _ _ _ _ _
  obtain ⟨p0c, p1c, p2c⟩ := kPc.cells
  obtain ⟨f0c, f1c, f2c⟩ := kPc.free
  obtain ⟨wQc, hwQc⟩ : ∃ x, World.setCell (World.setCell (World.setCell wPc ⟨Hc, 0, none⟩ (.int .i64 n2)) ⟨Hc, 1, none⟩ (tx p2)) ⟨Hc, 2, none⟩ (.slice au3 l2.length cu3) = x := ⟨_, rfl⟩
  have hbQc : Below (World.heap w7).size w7 wQc := by rw [← hwQc]; exact below_set3 hPc (by omega) _ _ _
  have kQc : KBox wQc Hc 24 (.int .i64 n2) (tx p2) (.slice au3 l2.length cu3) := by rw [← hwQc]; exact kPc.set _ _ _
  obtain ⟨q0c, q1c, q2c⟩ := kQc.cells
  have HBc := Lib.hid hbQc
  have HKc := Lib.hid kQc
  have HBbc := Lib.hid (grow_trans HB67.out hbQc)
  have HB3c := Lib.hid (grow_trans HBb.out HBbc.out)
  have HB2c := Lib.hid (grow_trans HB13.out HB3c.out)
  have HB8 := Lib.hid (grow_trans HB7.out hbQc)
  clear kPc hPc hbQc kQc
  have HL1 := Lib.hid (World.ownsRow_lit (base := wQc.heap.size) (e := 25) (size := 3) wQc #[] 0 (Nat.le_refl _) (by decide) rfl)
  have HS8 := Lib.hid ((Src.own HR1.out).below (HB2c.out.alloc HB2c.out.size (.cells #[] 25)))
  have LC1 := HK1.out.len
  have LC2 := HK2.out.len
  go_wp2_with (first
    | (at_builtin; refine append_src rfl _ _ 29 rfl wQc.heap.size 25 i1 (.agg #[.int .i64 0, .string ⟨#[]⟩, .slice none 0 0]) 3 48 Tryd.underlying29 gi gz0 gz1 gz2 rfl (by decide) _ 0 [] rfl HL1.out _ o1.length cs1 rfl LC1 HS8.out HK1.out.one (by unfold maxLen; omega) (by omega) (by simp) ?_; intro v9 w9 hown9 hg9; have HO9 := Lib.hid hown9; have HB9 := Lib.hid (((Below.refl wQc.heap.size wQc).alloc (Nat.le_refl _) (.cells #[] 25)).grown hg9 (by simp) (fun k hk => (HL1.out.lt k hk).1)); have HS9 := Lib.hid ((Src.own HR2.out).below (grow_trans HB3c.out HB9.out)); clear hown9 hg9)
    | (at_builtin; refine append_src rfl _ _ 29 rfl wQc.heap.size 25 i1 (.agg #[.int .i64 0, .string ⟨#[]⟩, .slice none 0 0]) 3 48 Tryd.underlying29 gi gz0 gz1 gz2 rfl (by decide) _ _ _ rfl HO9.out _ o2.length cs2 rfl LC2 HS9.out HK2.out.one (by unfold maxLen; omega) (by omega) HB9.out.size ?_; intro v10 w10 hown10 hg10; have HO10 := Lib.hid hown10; have HB10 := Lib.hid (HB9.out.grown hg10 HB9.out.size (fun k hk => (HO9.out.lt k hk).1)); obtain ⟨d0, d1, d2⟩ := ((HKb.out.kept HBbc.out).kept HB10.out).cells; obtain ⟨e0, e1, e2⟩ := (HKc.out.kept HB10.out).cells; clear hown10 hg10))
  refine (rcsame (n2, p2, l2) _ _ _ (HU2.out.below (grow_trans HB3c.out HB10.out)) ((HU3.out.below HBc.out).below HB10.out) (by show l2.length ≤ _; omega)).mono ?_
  rintro e w11 ⟨rfl, h11⟩
  have h10 := grow_trans HB10.out h11
  have htwo : BlkAt w11 v10 (o1 ++ o2) := ⟨cs1 ++ cs2, (FlatAt.own (show w10.ownsRow wQc.heap.size 25 3 v10 (o1.length + o2.length) (cs1 ++ cs2) by simpa using HO10.out)).below h11, BlksM.app (HK2.out.later (grow_trans HB3c.out h10)) (HK1.out.later (grow_trans HB2c.out h10))⟩
  have hn3 := (HK3.out.below HBc.out).below h10
  have HBE := Lib.hid (grow_trans HB8.out h10)
  have HRB := Lib.hid (rcblocks v10 r3 (o1 ++ o2) w11 htwo hn3 (by omega) HBL.out)
  clear htwo hn3 h10 h11 d0 d1 d2 e0 e1 e2
  go_wp2_with fail
  refine HRB.out.mono ?_
  rintro e w12 ⟨rfl, h12⟩
  have HEND := Lib.hid (HG.out.trans ((grow_trans HBE.out h12).mono HG.out.size))
  clear h12
  go_wp2_with fail
  go_ret
  exact ⟨rfl, HEND.out⟩

theorem cutTwo_walk {H : Type} (enc : TypeId × Value → H) (W : World) (base : Nat) (v0 : Value) (v1 : Value) (v2 : Value) (d0 : DataW H) (d1 : DataW H) (d2 : DataW H) (p0 : List MemPlace) (p1 : List MemPlace) (p2 : List MemPlace)
    (h0 : DataW.Trod enc Tryd.prog W 0 (fun _ => true) true 24 v0 d0 p0) (o0 : Value.okWide Tryd.prog W .any base 24 v0)
    (h1 : DataW.Trod enc Tryd.prog W 0 (fun _ => true) true 22 v1 d1 p1) (o1 : Value.okWide Tryd.prog W .any base 22 v1)
    (h2 : DataW.Trod enc Tryd.prog W 0 (fun _ => true) true 22 v2 d2 p2) (o2 : Value.okWide Tryd.prog W .any base 22 v2)
    (_hsz : (DataW.weightsEach Tryd.prog [24, 22, 22] [d0, d1, d2]).all (· ≤ reachBytes) = true) (hk : Rows.uptoSmall H [d0, d1, d2] = true) (hg : GW W) :
    Calls Tryd.prog 8 #[v0, v1, v2] W fun e W' => e = .returned (.bool true) ∧ Below W.heap.size W W' := by
  obtain ⟨c, u, rfl, hu, hn, b0, b1⟩ := open_cut o0 h0
  obtain ⟨aa, la, ca, rfl⟩ := okWide_slice Tryd.underlying22 o1
  obtain ⟨ab, lb, cb, rfl⟩ := okWide_slice Tryd.underlying22 o2
  obtain ⟨f1, h1⟩ := h1
  obtain ⟨f2, h2⟩ := h2
  obtain ⟨a, ta, ba⟩ := trod_txs (y := (d1, p1)) Tryd.underlying22 h1
  obtain ⟨b, tb, bb⟩ := trod_txs (y := (d2, p2)) Tryd.underlying22 h2
  have sa := Src.txs ta (trod_src (y := (d1, p1)) Tryd.underlying22 h1)
  have sb := Src.txs tb (trod_src (y := (d2, p2)) Tryd.underlying22 h2)
  have hb : Rows.uptoBulkAll [d0, d1, d2] ≤ 1048576 := of_decide_eq_true hk
  simp only [Rows.uptoBulkAll] at hb
  simp only [] at ba bb
  have e1 := Dg.sizes_len a
  have e2 := Dg.sizes_len b
  have e3 := Dg.sizes_len c.2.2
  by_cases h : 200 < a.length + b.length ∨ 200 < c.2.2.length
  · exact cutTwo_more c u _ _ a b W hu ta tb hg (by omega) h
  · exact cutTwo_core c u _ _ a b W hu ta tb sa sb hg hn (by omega) (by omega) (by omega) (by omega)
end Go.Proofs.YtldhkgelifmipaaDoor
