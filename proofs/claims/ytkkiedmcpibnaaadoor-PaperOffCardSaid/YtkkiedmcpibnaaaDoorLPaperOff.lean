/- PaperOff: the walk. -/
import Derived.Test.YtkkiedmcpibnaaaDoorPapEq
namespace Go.Proofs.YtkkiedmcpibnaaaDoor
open Go.RowKit Go.ChangeShapes Go.WideShapes Go.ChangeAt
set_option maxRecDepth 100000
attribute [local go_sem] ByteArray.mk_append_mk
attribute [local go_sem ↓] eq_pap
attribute [local go_sem] guard_pap

set_option maxHeartbeats 4000000 in
theorem paperOff_in (a b r : List UInt8) (f k : Int) (o : Bool) (W : World) (ha : a.length ≤ 1048576) (hb : b.length ≤ 1048576) (hr : r.length ≤ 65536) (hf : f ≤ 9223372036854775807) (hg : GW W) :
    Calls Tryd.prog 7 #[papV (a, b, f, o), tx r, .int .i64 k] W fun e W' => e = .returned (.bool true) ∧ Below W.heap.size W W' := by
  have hA : Pp.appendR (a, b, f, true) r = ((a, b, f, true), 6) := appendR_off hr rfl
  have hS : Pp.syncR (a, b, f, true) = ((a, b, f, true), 6) := rfl
  obtain ⟨rs, t, hR⟩ : ∃ l t, Pp.Rd (a ++ b.take (Pp.keepN b.length k)) l t := ⟨_, _, Pp.read_rd _⟩
  obtain ⟨s, hs⟩ : ∃ s, Pp.frs rs = s := ⟨_, rfl⟩
  have H1 := Lib.hid (fun W hW => pappend_eq hA (by omega) (by omega) hf W hW)
  have H2 := Lib.hid (fun W => psync_eq hS (by omega) W)
  have H3 := Lib.hid (fun W hW => pcrash_eq (f := f) (o := true) hR hs (by omega) W hW)
  have GG := Lib.hid hg
  have t1 : decide ((1048576 : Int) < (a.length : Int)) = false := decide_eq_false (by omega)
  have t2 : decide ((1048576 : Int) < (b.length : Int)) = false := decide_eq_false (by omega)
  have t3 : decide ((65536 : Int) < (r.length : Int)) = false := decide_eq_false (by omega)
  have A0 := Lib.hid (Blk.new W 34 [tx a, tx b, .int .i64 f, .bool o])
  have G0 := Lib.hid (show Below W.heap.size W (W.alloc (.cells #[tx a, tx b, .int .i64 f, .bool o] 34)) from (Below.refl _ _).alloc (Nat.le_refl _) _)
  clear hA hS hR hs hg
  go_enter Tryd.func7, Tryd.ntmps7
  go_wp2_with fail
  refine (papShown _ (GG.out.below G0.out)).mono ?_
  rintro e w1 ⟨rfl, g1⟩
  have A1 := Lib.hid (A0.out.kept g1)
  have G1 := Lib.hid (G0.out.trans (g1.mono (by simp)))
  clear g1
  have c0 := A1.out.cell 0 rfl
  have cf0 := A1.out.free 0
  have c1 := A1.out.cell 1 rfl
  have cf1 := A1.out.free 1
  have c2 := A1.out.cell 2 rfl
  have cf2 := A1.out.free 2
  have c3 := A1.out.cell 3 rfl
  have cf3 := A1.out.free 3
  have A2 := Lib.hid (A1.out.set 3 (.bool true) (cs' := [tx a, tx b, .int .i64 f, .bool true]) rfl)
  have G2 := Lib.hid (G1.out.setCell (p := ⟨W.heap.size, 3, none⟩) (Nat.le_refl _) (.bool true))
  have d0 := A2.out.cell 0 rfl
  have d1 := A2.out.cell 1 rfl
  have d2 := A2.out.cell 2 rfl
  have d3 := A2.out.cell 3 rfl
  go_wp2_with fail
  generalize w1.setCell ⟨W.heap.size, 3, none⟩ (.bool true) = w2 at *
  clear c0 c1 c2 c3 cf0 cf1 cf2 cf3 d0 d1 d2 d3
  refine (H1.out _ (GG.out.below G2.out)).mono ?_
  rintro e w3 ⟨rfl, g3⟩
  have A3 := Lib.hid ((A2.out.kept g3).alloc (.cells #[tx a, tx b, .int .i64 f, .bool true] 34))
  have B3 := Lib.hid (Blk.new w3 34 [tx a, tx b, .int .i64 f, .bool true])
  have G3 := Lib.hid (grow_trans G2.out (g3.trans (((Below.refl _ _).alloc (Nat.le_refl _) (.cells #[tx a, tx b, .int .i64 f, .bool true] 34)).mono g3.size)))
  clear g3
  have ac0 := A3.out.cell 0 rfl
  have ac1 := A3.out.cell 1 rfl
  have ac2 := A3.out.cell 2 rfl
  have ac3 := A3.out.cell 3 rfl
  go_wp2_with fail
  refine (H2.out _).mono ?_
  rintro e w4 ⟨rfl, g4⟩
  have A4 := Lib.hid ((A3.out.kept g4).alloc (.cells #[tx a, tx b, .int .i64 f, .bool true] 34))
  have B4 := Lib.hid ((B3.out.kept g4).alloc (.cells #[tx a, tx b, .int .i64 f, .bool true] 34))
  have C4 := Lib.hid (Blk.new w4 34 [tx a, tx b, .int .i64 f, .bool true])
  have G4 := Lib.hid (grow_trans G3.out (g4.trans (((Below.refl _ _).alloc (Nat.le_refl _) (.cells #[tx a, tx b, .int .i64 f, .bool true] 34)).mono g4.size)))
  clear g4
  clear ac0 ac1 ac2 ac3
  have ac0 := A4.out.cell 0 rfl
  have ac1 := A4.out.cell 1 rfl
  have ac2 := A4.out.cell 2 rfl
  have ac3 := A4.out.cell 3 rfl
  go_wp2_with fail
  refine (H3.out _ (GG.out.below G4.out)).mono ?_
  rintro e w5 ⟨rfl, g5⟩
  have A5 := Lib.hid ((A4.out.kept g5).alloc (.cells #[tx s, tx [], .int .i64 (-1), .bool false] 34))
  have B5 := Lib.hid ((B4.out.kept g5).alloc (.cells #[tx s, tx [], .int .i64 (-1), .bool false] 34))
  have C5 := Lib.hid ((C4.out.kept g5).alloc (.cells #[tx s, tx [], .int .i64 (-1), .bool false] 34))
  have D5 := Lib.hid (Blk.new w5 34 [tx s, tx [], .int .i64 (-1), .bool false])
  have G5 := Lib.hid (grow_trans G4.out (g5.trans (((Below.refl _ _).alloc (Nat.le_refl _) (.cells #[tx s, tx [], .int .i64 (-1), .bool false] 34)).mono g5.size)))
  clear g5
  clear ac0 ac1 ac2 ac3
  have ac0 := A5.out.cell 0 rfl
  have ac1 := A5.out.cell 1 rfl
  have ac2 := A5.out.cell 2 rfl
  have ac3 := A5.out.cell 3 rfl
  have bc0 := B5.out.cell 0 rfl
  have bc1 := B5.out.cell 1 rfl
  have bc2 := B5.out.cell 2 rfl
  have bc3 := B5.out.cell 3 rfl
  have cc0 := C5.out.cell 0 rfl
  have cc1 := C5.out.cell 1 rfl
  have cc2 := C5.out.cell 2 rfl
  have cc3 := C5.out.cell 3 rfl
  have dc0 := D5.out.cell 0 rfl
  have dc1 := D5.out.cell 1 rfl
  have dc2 := D5.out.cell 2 rfl
  have dc3 := D5.out.cell 3 rfl
  go_wp2
  go_ret
  exact ⟨rfl, G5.out⟩

set_option maxHeartbeats 2000000 in
theorem paperOff_out (a b r : List UInt8) (f k : Int) (o : Bool) (W : World) (h : ¬ (a.length ≤ 1048576 ∧ b.length ≤ 1048576 ∧ r.length ≤ 65536)) (hg : GW W) :
    Calls Tryd.prog 7 #[papV (a, b, f, o), tx r, .int .i64 k] W fun e W' => e = .returned (.bool true) ∧ Below W.heap.size W W' := by
  have GG := Lib.hid hg
  have A0 := Lib.hid (Blk.new W 34 [tx a, tx b, .int .i64 f, .bool o])
  have G0 := Lib.hid (show Below W.heap.size W (W.alloc (.cells #[tx a, tx b, .int .i64 f, .bool o] 34)) from (Below.refl _ _).alloc (Nat.le_refl _) _)
  clear hg
  by_cases h1 : 1048576 < a.length
  · have t1 : decide ((1048576 : Int) < (a.length : Int)) = true := decide_eq_true (by omega)
    clear h
    go_enter Tryd.func7, Tryd.ntmps7
    go_wp2_with fail
    refine (papShown _ (GG.out.below G0.out)).mono ?_
    rintro e w1 ⟨rfl, g1⟩
    have A1 := Lib.hid (A0.out.kept g1)
    have G1 := Lib.hid (G0.out.trans (g1.mono (by simp)))
    clear g1
    have c0 := A1.out.cell 0 rfl
    have c1 := A1.out.cell 1 rfl
    go_wp2
    go_ret
    exact ⟨rfl, G1.out⟩
  · have t1 : decide ((1048576 : Int) < (a.length : Int)) = false := decide_eq_false (by omega)
    by_cases h2 : 1048576 < b.length
    · have t2 : decide ((1048576 : Int) < (b.length : Int)) = true := decide_eq_true (by omega)
      clear h
      go_enter Tryd.func7, Tryd.ntmps7
      go_wp2_with fail
      refine (papShown _ (GG.out.below G0.out)).mono ?_
      rintro e w1 ⟨rfl, g1⟩
      have A1 := Lib.hid (A0.out.kept g1)
      have G1 := Lib.hid (G0.out.trans (g1.mono (by simp)))
      clear g1
      have c0 := A1.out.cell 0 rfl
      have c1 := A1.out.cell 1 rfl
      go_wp2
      go_ret
      exact ⟨rfl, G1.out⟩
    · have t2 : decide ((1048576 : Int) < (b.length : Int)) = false := decide_eq_false (by omega)
      have t3 : decide ((65536 : Int) < (r.length : Int)) = true := decide_eq_true (by omega)
      clear h
      go_enter Tryd.func7, Tryd.ntmps7
      go_wp2_with fail
      refine (papShown _ (GG.out.below G0.out)).mono ?_
      rintro e w1 ⟨rfl, g1⟩
      have A1 := Lib.hid (A0.out.kept g1)
      have G1 := Lib.hid (G0.out.trans (g1.mono (by simp)))
      clear g1
      have c0 := A1.out.cell 0 rfl
      have c1 := A1.out.cell 1 rfl
      go_wp2
      go_ret
      exact ⟨rfl, G1.out⟩

theorem paperOff_walk {H : Type} (enc : TypeId × Value → H) (W : World) (base : Nat) (v0 : Value) (v1 : Value) (v2 : Value) (d0 : DataW H) (d1 : DataW H) (d2 : DataW H) (p0 : List MemPlace) (p1 : List MemPlace) (p2 : List MemPlace)
    (h0 : DataW.Trod enc Tryd.prog W 0 (fun _ => true) true 34 v0 d0 p0) (o0 : Value.okWide Tryd.prog W .any base 34 v0)
    (h1 : DataW.Trod enc Tryd.prog W 0 (fun _ => true) true 9 v1 d1 p1) (o1 : Value.okWide Tryd.prog W .any base 9 v1)
    (h2 : DataW.Trod enc Tryd.prog W 0 (fun _ => true) true 3 v2 d2 p2) (o2 : Value.okWide Tryd.prog W .any base 3 v2)
    (_hsz : (DataW.weightsEach Tryd.prog [34, 9, 3] [d0, d1, d2]).all (· ≤ reachBytes) = true) (hg : GW W) :
    Calls Tryd.prog 7 #[v0, v1, v2] W fun e W' => e = .returned (.bool true) ∧ Below W.heap.size W W' := by
  obtain ⟨a0, a1, a2, a3, y0, y1, y2, y3, n, rfl, rfl, _, e0, e1, e2, e3⟩ := Joins.open_agg4 Tryd.underlying34 (by kernel_rfl) (by kernel_rfl) o0 h0
  obtain ⟨a, rfl, rfl⟩ := trod_tx Tryd.underlying9 e0
  obtain ⟨b, rfl, rfl⟩ := trod_tx Tryd.underlying9 e1
  obtain ⟨f, f1, f2, rfl, rfl⟩ := trod_i64 Tryd.underlying3 e2
  obtain ⟨o, rfl, rfl⟩ := trod_bool e3
  obtain ⟨r, rfl, rfl, rfl⟩ := open_tx Tryd.underlying9 o1 h1
  obtain ⟨k, k1, k2, rfl, rfl, rfl⟩ := open_i64 Tryd.underlying3 o2 h2
  by_cases h : a.length ≤ 1048576 ∧ b.length ≤ 1048576 ∧ r.length ≤ 65536
  · exact paperOff_in a b r f k o W h.1 h.2.1 h.2.2 f2 hg
  · exact paperOff_out a b r f k o W h hg
end Go.Proofs.YtkkiedmcpibnaaaDoor
