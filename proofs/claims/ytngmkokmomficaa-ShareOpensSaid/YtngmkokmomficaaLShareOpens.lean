/- ShareOpens: the walk. (Written by gen-lshopens.py.) -/
import Derived.Test.YtngmkokmomficaaShOpenIn
import Derived.Deep.DeepCutAuto
namespace Go.Proofs.Ytngmkokmomficaa
open Go.RowKit Go.ChangeShapes Go.WideShapes Go.ChangeAt
attribute [local go_sem] build_el build_el0 build_el1 build_el2 guard_el eqE_self
attribute [local go_sem ↓] eq_elE

set_option maxHeartbeats 4000000 in
set_option maxRecDepth 100000 in
theorem shareOpens_core (v : Value) (l : List Sr.Shr) (k : Int) (w : World) (hv : FlatAt w v 3 (shrs l)) (hlen : l.length ≤ 140737488351232) (hw : Wide l) :
    Calls Try.prog 4 #[v, .int .i64 k] w fun e w' => e = .returned (.bool true) ∧ Below w.heap.size w w' := by
  have cA := Lib.hid (fun (W : World) (hb : Below w.heap.size w W) => popen_any v l W (hv.below hb) hlen hw)
  have cB := Lib.hid (fun (W : World) (hb : Below w.heap.size w W) => ropen_any v l W (hv.below hb) hlen)
  have cC := Lib.hid (fun (W : World) (hb : Below w.heap.size w W) => pweight_any v l k W (hv.below hb) hlen hw)
  have cD := Lib.hid (fun (W : World) (hb : Below w.heap.size w W) => rweight_any v l k W (hv.below hb) hlen)
  obtain ⟨⟨x, c⟩, hx⟩ : ∃ r, Sr.openE l = r := ⟨_, rfl⟩
  obtain ⟨⟨y, d⟩, hy⟩ : ∃ r, Sr.weightE l k = r := ⟨_, rfl⟩
  rw [hx] at cA cB
  rw [hy] at cC cD
  obtain ⟨av, cv, rfl⟩ := hv.len (n := l.length) (shrs_len l) (by omega)
  clear hv hx hy hw
  by_cases h200 : 200 < l.length
  · have t1 : decide ((200 : Int) < (l.length : Int)) = true := by rw [decide_eq_true_iff]; omega
    clear h200
    go_enter Try.func4, Try.ntmps4
    go_wp2_with fail
    refine (shShown_any _).mono ?_
    rintro e w1 ⟨rfl, h1⟩
    go_wp2
    go_ret
    exact ⟨rfl, h1⟩
  have t1 : decide ((200 : Int) < (l.length : Int)) = false := by rw [decide_eq_false_iff_not]; omega
  clear h200
  go_enter Try.func4, Try.ntmps4
  go_wp2_with fail
  refine (shShown_any _).mono ?_
  rintro e w1 ⟨rfl, hb0⟩
  go_wp2_with fail
  refine (cA.out _ hb0).mono ?_
  rintro e v1 ⟨rfl, h1⟩
  have gb1 := hb0.trans (h1.mono hb0.size)
  have hb1 := gb1.alloc gb1.size (.cells #[.int .i64 x.1, .int .i64 x.2] 24)
  have bx1 := EBox.new v1 x.1 x.2
  obtain ⟨B1, hB1⟩ : ∃ B, v1.heap.size = B := ⟨_, rfl⟩
  rw [hB1] at bx1
  clear h1 gb1
  go_wp2_with fail
  clear hB1
  refine (cB.out _ hb1).mono ?_
  rintro e v2 ⟨rfl, h2⟩
  have gb2 := hb1.trans (h2.mono hb1.size)
  have hb2 := gb2.alloc gb2.size (.cells #[.int .i64 x.1, .int .i64 x.2] 24)
  replace bx1 := (bx1.kept h2).alloc (.cells #[.int .i64 x.1, .int .i64 x.2] 24)
  have bx2 := EBox.new v2 x.1 x.2
  obtain ⟨B2, hB2⟩ : ∃ B, v2.heap.size = B := ⟨_, rfl⟩
  rw [hB2] at bx2
  clear h2 gb2 hb1
  go_wp2_with fail
  clear hB2
  refine (cC.out _ hb2).mono ?_
  rintro e v3 ⟨rfl, h3⟩
  have gb3 := hb2.trans (h3.mono hb2.size)
  have hb3 := gb3.alloc gb3.size (.cells #[.int .i64 y.1, .int .i64 y.2] 24)
  replace bx1 := (bx1.kept h3).alloc (.cells #[.int .i64 y.1, .int .i64 y.2] 24)
  replace bx2 := (bx2.kept h3).alloc (.cells #[.int .i64 y.1, .int .i64 y.2] 24)
  have bx3 := EBox.new v3 y.1 y.2
  obtain ⟨B3, hB3⟩ : ∃ B, v3.heap.size = B := ⟨_, rfl⟩
  rw [hB3] at bx3
  clear h3 gb3 hb2
  go_wp2_with fail
  clear hB3
  refine (cD.out _ hb3).mono ?_
  rintro e v4 ⟨rfl, h4⟩
  have gb4 := hb3.trans (h4.mono hb3.size)
  have hb4 := gb4.alloc gb4.size (.cells #[.int .i64 y.1, .int .i64 y.2] 24)
  replace bx1 := (bx1.kept h4).alloc (.cells #[.int .i64 y.1, .int .i64 y.2] 24)
  replace bx2 := (bx2.kept h4).alloc (.cells #[.int .i64 y.1, .int .i64 y.2] 24)
  replace bx3 := (bx3.kept h4).alloc (.cells #[.int .i64 y.1, .int .i64 y.2] 24)
  have bx4 := EBox.new v4 y.1 y.2
  obtain ⟨B4, hB4⟩ : ∃ B, v4.heap.size = B := ⟨_, rfl⟩
  rw [hB4] at bx4
  obtain ⟨bx10, bx11, _, _⟩ := bx1.facts
  obtain ⟨bx20, bx21, _, _⟩ := bx2.facts
  obtain ⟨bx30, bx31, _, _⟩ := bx3.facts
  obtain ⟨bx40, bx41, _, _⟩ := bx4.facts
  clear h4 gb4 hb3
  go_wp2_with fail
  go_ret
  exact ⟨rfl, hb4⟩

theorem shareOpens_walk {H : Type} (enc : TypeId × Value → H) (W : World) (base : Nat) (v0 : Value) (v1 : Value) (d0 : DataW H) (d1 : DataW H) (p0 : List MemPlace) (p1 : List MemPlace)
    (h0 : DataW.Trod enc Try.prog W 0 (fun _ => true) true 35 v0 d0 p0) (o0 : Value.okWide Try.prog W .any base 35 v0)
    (h1 : DataW.Trod enc Try.prog W 0 (fun _ => true) true 3 v1 d1 p1) (o1 : Value.okWide Try.prog W .any base 3 v1)
    (hsz : (DataW.weightsEach Try.prog [35, 3] [d0, d1]).all (· ≤ reachBytes) = true) :
    Calls Try.prog 4 #[v0, v1] W fun e W' => e = .returned (.bool true) ∧ Below W.heap.size W W' := by
  simp only [DataW.weightsEach, List.all_append, Bool.and_eq_true] at hsz
  obtain ⟨a0, len, cap, rfl⟩ := okWide_slice Try.underlying35 o0
  obtain ⟨n0, e0⟩ := h0
  obtain ⟨l, hl, h24, hw⟩ := trod_shrs (y := (d0, p0)) e0 hsz.1
  obtain ⟨i, _, _, rfl, _⟩ := open_i64 Try.underlying3 o1 h1
  exact shareOpens_core _ l i W hl (by omega) hw
end Go.Proofs.Ytngmkokmomficaa
