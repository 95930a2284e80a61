/- ShareOrder: the walk. (Written by gen-lsh2.py.) -/
import Derived.Test.YtngmkokmomficaaShOwn
namespace Go.Proofs.Ytngmkokmomficaa
open Go.RowKit Go.ChangeShapes Go.WideShapes Go.ChangeAt
attribute [local go_sem] build_el build_el0 build_el1 build_el2 guard_el eqE_self
attribute [local go_sem ↓] eq_elE

theorem rev_step (l : List Sr.Shr) (j : Nat) (h : j < l.length) : (l.drop j).reverse = (l.drop (j + 1)).reverse ++ [l[j]] := by
  rw [List.drop_eq_getElem_cons h, List.reverse_cons]
set_option maxHeartbeats 4000000 in
set_option maxRecDepth 100000 in
theorem shareOrder_core (v : Value) (l : List Sr.Shr) (w : World) (hv : FlatAt w v 3 (shrs l)) (hlen : l.length ≤ 140737488351232) (hw : Wide l) :
    Calls Try.prog 8 #[v] w fun e w' => e = .returned (.bool true) ∧ Below w.heap.size w w' := by
  obtain ⟨i0, hi, hz0, hz1, hz2⟩ := info_parts info_shr
  have hrow := Lib.hid (fun (w' : World) (hb : Below w.heap.size w w') (h0 : 0 < l.length) => shrs_row hv hb h0)
  have cA := Lib.hid (fun (W : World) (hb : Below w.heap.size w W) => popen_any v l W (hv.below hb) hlen hw)
  have cB := Lib.hid (fun (u : Value) (W : World) (h : FlatAt W u 3 (shrs l.reverse)) => popen_any u l.reverse W h (by rw [List.length_reverse]; exact hlen) (fun s hs => hw s (List.mem_reverse.1 hs)))
  rw [← Sr.openE_perm (List.reverse_perm l).symm] at cB
  obtain ⟨⟨x, c⟩, hx⟩ : ∃ r, Sr.openE l = r := ⟨_, rfl⟩
  rw [hx] at cA cB
  obtain ⟨av, cv, rfl⟩ := hv.len (n := l.length) (shrs_len l) (by omega)
  clear hv hx hw
  by_cases h64 : 64 < l.length
  · have t1 : decide ((64 : Int) < (l.length : Int)) = true := by rw [decide_eq_true_iff]; omega
    clear h64
    go_enter Try.func8, Try.ntmps8
    go_wp2_with fail
    refine (shShown_any _).mono ?_
    rintro e w1 ⟨rfl, h1⟩
    go_wp2
    go_ret
    exact ⟨rfl, h1⟩
  have t1 : decide ((64 : Int) < (l.length : Int)) = false := by rw [decide_eq_false_iff_not]; omega
  have HS := Lib.hid (rev_step l)
  go_enter Try.func8, Try.ntmps8
  go_wp2_with fail
  refine (shShown_any _).mono ?_
  rintro e w1 ⟨rfl, hb0⟩
  go_wp2_with fail
  go_loopw [4, 5] (fun u i wr => ∃ (m : Nat) (z : Int), i = .int .i64 z ∧ z + 1 = m ∧ m ≤ l.length ∧ wr.ownsRow w.heap.size 27 3 u (l.drop m).reverse.length (shrs (l.drop m).reverse) ∧ Below w.heap.size w wr) (fun _ i _ => (intOf i + 1).toNat)
  case atStart => exact ⟨l.length, _, rfl, by omega, Nat.le_refl _, by rw [List.drop_length]; exact World.ownsRow_nil _ _ _ _, hb0⟩
  case round =>
    clear hb0
    obtain ⟨m, z, rfl, hzm, hml, hown, hb⟩ := hrel
    by_cases h0 : m = 0
    · subst h0
      have t0 : decide (0 ≤ z) = false := by rw [decide_eq_false_iff_not]; omega
      rw [List.drop_zero] at hown
      have HW := Lib.hid hown
      clear hzm hown
      go_wp2_with fail
      refine (cA.out _ hb).mono ?_
      rintro e w2 ⟨rfl, h2⟩
      have gb := hb.trans (h2.mono hb.size)
      have hb2 := gb.alloc gb.size (.cells #[.int .i64 x.1, .int .i64 x.2] 24)
      have bx := EBox.new w2 x.1 x.2
      have HR := Lib.hid (FlatAt.own (own_below (own_below HW.out h2) ((Below.refl _ _).alloc (Nat.le_refl _) (.cells #[.int .i64 x.1, .int .i64 x.2] 24))))
      obtain ⟨B1, hB1⟩ : ∃ B, w2.heap.size = B := ⟨_, rfl⟩
      rw [hB1] at bx
      clear hb h2 gb
      go_wp2_with fail
      clear hB1
      refine (cB.out _ _ HR.out).mono ?_
      generalize w2.alloc (.cells #[.int .i64 x.1, .int .i64 x.2] 24) = w3 at *
      rintro e w4 ⟨rfl, h4⟩
      have gb := hb2.trans (h4.mono hb2.size)
      have hb4 := gb.alloc gb.size (.cells #[.int .i64 x.1, .int .i64 x.2] 24)
      have bx4 := (bx.kept h4).alloc (.cells #[.int .i64 x.1, .int .i64 x.2] 24)
      obtain ⟨q0, q1, _, _⟩ := bx4.facts
      clear h4 gb bx hb2 HR
      go_wp2_with fail
      go_ret
      exact ⟨rfl, hb4⟩
    · obtain ⟨b, off, cap, hv, hblt, hc⟩ := hrow.out _ hb (by omega)
      injection hv with e1 _ e2
      subst e1 e2
      obtain ⟨j, rfl⟩ : ∃ j, m = j + 1 := ⟨m - 1, by omega⟩
      obtain rfl : z = (j : Int) := by omega
      obtain ⟨c0, c1, c2⟩ := hc j (by omega)
      have hst := HS.out j (by omega)
      obtain ⟨s, hs⟩ : ∃ s, l[j] = s := ⟨_, rfl⟩
      rw [hs] at c0 c1 c2 hst
      have hlenr : (l.drop (j + 1)).reverse.length ≤ 64 := by rw [List.length_reverse, List.length_drop]; omega
      have t0 : decide ((0 : Int) ≤ (j : Int)) = true := by rw [decide_eq_true_iff]; omega
      have t2 : (j : Int) < (l.length : Int) := by omega
      have hjl : j < l.length := by omega
      have HST := Lib.hid hst
      have HW := Lib.hid hown
      have HNW := Lib.hid (fun (W : World) => new_cells W [.int .i64 s.1, .int .i64 s.2.1, .int .i64 s.2.2] 27)
      clear hc hs hst hzm hown
      go_wp2_with (at_builtin; refine wpList_append_own _ rfl _ _ 35 rfl w.heap.size 27 i0 (.agg #[.int .i64 0, .int .i64 0, .int .i64 0]) 3 24 Try.underlying35 hi hz0 hz1 hz2 rfl (by decide) _ _ _ rfl (HW.out.alloc _) ⟨_, 0, none⟩ 1 1 [.int .i64 s.1, .int .i64 s.2.1, .int .i64 s.2.2] rfl rfl (HNW.out _) (by intro u hu; simp at hu; rcases hu with rfl | rfl | rfl <;> rfl) (by unfold maxLen; omega) (by omega) (by have := hb.size; simp; omega) ?_; intro v5 w5 hown5 hg5 _; have HO5 := Lib.hid hown5; have HG5 := Lib.hid hg5; clear hown5 hg5)
      go_roundw
      case rel =>
        refine ⟨j, (j : Int) - 1, rfl, by omega, by omega, ?_, (hb.alloc hb.size _).grown HG5.out (by have := hb.size; simp; omega) (fun k hk => (HW.out.lt k hk).1)⟩
        rw [HST.out, shrs_snoc, List.length_append]
        exact HO5.out
      case measure => simp [intOf]

theorem shareOrder_walk {H : Type} (enc : TypeId × Value → H) (W : World) (base : Nat) (v0 : Value) (d0 : DataW H) (p0 : List MemPlace)
    (h0 : DataW.Trod enc Try.prog W 0 (fun _ => true) true 35 v0 d0 p0) (o0 : Value.okWide Try.prog W .any base 35 v0)
    (hsz : (DataW.weightsEach Try.prog [35] [d0]).all (· ≤ reachBytes) = true) :
    Calls Try.prog 8 #[v0] W fun e W' => e = .returned (.bool true) ∧ Below W.heap.size W W' := by
  simp only [DataW.weightsEach, List.all_append, Bool.and_eq_true] at hsz
  obtain ⟨a0, len, cap, rfl⟩ := okWide_slice Try.underlying35 o0
  obtain ⟨n0, e0⟩ := h0
  obtain ⟨l, hl, h24, hw⟩ := trod_shrs (y := (d0, p0)) e0 hsz.1
  exact shareOrder_core _ l W hl (by omega) hw
end Go.Proofs.Ytngmkokmomficaa
