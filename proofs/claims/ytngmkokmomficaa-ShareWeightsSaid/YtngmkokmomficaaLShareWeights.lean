/- ShareWeights: the walk. (Written by gen-lsh3.py.) -/
import Derived.Test.YtngmkokmomficaaShOwn
namespace Go.Proofs.Ytngmkokmomficaa
open Go.RowKit Go.ChangeShapes Go.WideShapes Go.ChangeAt
attribute [local go_sem] build_el build_el0 build_el1 build_el2 guard_el eqE_self
attribute [local go_sem ↓] eq_elE

/-- Shares of which the numbers alone are told. -/
def zs (l : List Int) : List Sr.Shr := l.map fun i => (i, 0, 0)
theorem ids_zs (l : List Int) : Sr.ids (zs l) = l := by
  unfold Sr.ids zs
  rw [List.map_map]
  conv => rhs; rw [← List.map_id l]
  rfl
theorem zs_step (l : List Int) (j : Nat) (h : j < l.length) : zs (l.take (j + 1)) = zs (l.take j) ++ [(l[j], 0, 0)] := by
  rw [List.take_succ_eq_append_getElem h]
  unfold zs
  rw [List.map_append]
  rfl
theorem zs_len (l : List Int) (j : Nat) (h : j ≤ l.length) : (zs (l.take j)).length = j := by simp [zs]; omega
theorem zs_wide (l : List Int) (ha : Sr.apart l = true) : Wide (zs l) := by
  intro s hs
  obtain ⟨i, hi, rfl⟩ := List.mem_map.1 hs
  have := ((Sr.apart_iff l).1 ha).1 i hi
  exact ⟨by simp only; omega, by simp only; omega⟩
set_option maxHeartbeats 8000000 in
set_option maxRecDepth 100000 in
theorem shareWeights_core (v : Value) (ids : List Int) (w : World) (hv : FlatAt w v 1 (ints ids)) (hlen : ids.length ≤ 9223372036854775807) :
    Calls Try.prog 9 #[v] w fun e w' => e = .returned (.bool true) ∧ Below w.heap.size w w' := by
  obtain ⟨i0, hi, hz0, hz1, hz2⟩ := info_parts info_shr
  have cD := Lib.hid (fun (W : World) (hw : Below w.heap.size w W) => distinct_any v ids W (hv.below hw) hlen)
  have hap := Sr.dis_apart ids [] (by decide)
  obtain ⟨l, hl⟩ : ∃ l, Sr.dis ids [] = l := ⟨_, rfl⟩
  rw [hl] at cD hap
  have hll := Sr.apart_len hap
  obtain ⟨av, cv, rfl⟩ := hv.len (n := ids.length) (ints_len ids) (by omega)
  have cW := Lib.hid (fun (u : Value) (W : World) (h : FlatAt W u 3 (shrs (zs l))) (k : Nat) (hk : k < l.length) => (show Calls Try.prog 18 #[u, .int .i64 k] W fun e w' => e = .returned (.tuple #[elv (Sr.wtE l k), .int .i64 0]) ∧ Below W.heap.size W w' from by
    have := pweight_any u (zs l) k W h (by simp [zs]; omega) (zs_wide l hap)
    rwa [weightE_good (zs l) k (by simp [zs]; exact hk) (by rw [ids_zs]; exact hap), ids_zs] at this))
  have HONE := Lib.hid (show l.length ≠ 0 → Sr.wsum l l.length = (1, 0) from fun h => Sr.weights_one l hap (fun e => h (by rw [e]; rfl)))
  have HST := Lib.hid (zs_step l)
  have HSL := Lib.hid (zs_len l)
  have HEND := Lib.hid (show zs (l.take l.length) = zs l by rw [List.take_length])
  clear hv hl hap
  go_enter Try.func9, Try.ntmps9
  go_wp2_with fail
  refine (shShown_any _).mono ?_
  rintro e w1 ⟨rfl, hb0⟩
  go_wp2_with fail
  refine (cD.out _ hb0).mono ?_
  rintro e w2 ⟨u, rfl, hu, h2⟩
  have hb2 := hb0.trans (h2.mono hb0.size)
  obtain ⟨au, cu, rfl⟩ := hu.len (n := l.length) (ints_len l) (by omega)
  have hrow := Lib.hid (fun (W : World) (hw : Below w2.heap.size w2 W) (h0 : 0 < l.length) => ints_row hu hw h0)
  have hb22 := Below.refl w2.heap.size w2
  clear hb0 h2 hu
  go_wp2_with fail
  go_loopw [5, 6] (fun q k wr => ∃ j : Nat, k = .int .i64 j ∧ j ≤ l.length ∧ wr.ownsRow w2.heap.size 27 3 q (zs (l.take j)).length (shrs (zs (l.take j))) ∧ Below w2.heap.size w2 wr) (fun _ k _ => l.length - (intOf k).toNat)
  case atStart => exact ⟨0, rfl, by omega, World.ownsRow_nil _ _ _ _, hb22⟩
  case round =>
    clear hb22
    obtain ⟨j, rfl, hj, hown, hb⟩ := hrel
    by_cases hlt : j < l.length
    · obtain ⟨b, off, cap, hv, hc⟩ := hrow.out _ hb (by omega)
      injection hv with e1 _ e2
      subst e1 e2
      have c0 := hc j hlt
      have hst := HST.out j hlt
      have hsl := HSL.out j hj
      obtain ⟨x, hx⟩ : ∃ x, l[j] = x := ⟨_, rfl⟩
      rw [hx] at c0 hst
      have HSTEP := Lib.hid hst
      have HW := Lib.hid hown
      have HNW := Lib.hid (fun (W : World) => new_cells W [.int .i64 x, .int .i64 0, .int .i64 0] 27)
      have tj : (j : Int) < (l.length : Int) := by omega
      clear hc hx hst hown
      go_wp2_with (at_builtin; refine wpList_append_own _ rfl _ _ 35 rfl w2.heap.size 27 i0 (.agg #[.int .i64 0, .int .i64 0, .int .i64 0]) 3 24 Try.underlying35 hi hz0 hz1 hz2 rfl (by decide) _ _ _ rfl (HW.out.alloc _) ⟨_, 0, none⟩ 1 1 [.int .i64 x, .int .i64 0, .int .i64 0] rfl rfl (HNW.out _) (by intro u hu; simp at hu; rcases hu with rfl | rfl | rfl <;> rfl) (by unfold maxLen; omega) (by omega) (by have := hb.size; simp; omega) ?_; intro v5 w5 hown5 hg5 _; have HO5 := Lib.hid hown5; have HG5 := Lib.hid hg5; clear hown5 hg5)
      go_roundw
      case rel =>
        refine ⟨j + 1, by go_num, by omega, ?_, (hb.alloc hb.size _).grown HG5.out (by have := hb.size; simp; omega) (fun k hk => (HW.out.lt k hk).1)⟩
        rw [HSTEP.out, shrs_snoc, List.length_append]
        exact HO5.out
      case measure => simp [intOf]; omega
    · obtain rfl : j = l.length := by omega
      rw [HEND.out] at hown
      have HW := Lib.hid (FlatAt.own hown)
      obtain ⟨aq, cq, rfl⟩ := (FlatAt.own hown).len (n := l.length) (by rw [shrs_len]; simp [zs]) (by omega)
      obtain ⟨B, hB⟩ : ∃ B, wr.heap.size = B := ⟨_, rfl⟩
      have hs := EBox.new wr 0 0
      rw [hB] at hs
      have hbw := hb2.trans (hb.mono hb2.size)
      have hb0 : Below wr.heap.size wr (wr.alloc (.cells #[.int .i64 0, .int .i64 0] 24)) := (Below.refl _ _).alloc (Nat.le_refl _) _
      have HTR := Lib.hid (fun (W : World) (h : Below wr.heap.size wr W) => hbw.trans (h.mono hbw.size))
      have HFW := Lib.hid (fun (W : World) (h : Below wr.heap.size wr W) => HW.out.below h)
      have hle : wr.heap.size ≤ B := by omega
      have HLE := Lib.hid hle
      clear hown HW hbw hrow cD hb hb2 hle
      go_wp2_with fail
      clear hB
      go_loopw [8] (fun k w' => ∃ j : Nat, k = .int .i64 j ∧ j ≤ l.length ∧ EBox w' B (Sr.wsum l j) ∧ Below wr.heap.size wr w') (fun k _ => l.length - (intOf k).toNat)
      case atStart => exact ⟨0, rfl, by omega, hs, hb0⟩
      case round =>
        clear hs hb0
        obtain ⟨j, rfl, hj, hs, hb⟩ := hrel
        have hfl := HFW.out _ hb
        by_cases hlt : j < l.length
        · have tj : (j : Int) < (l.length : Int) := by omega
          have hcw := Lib.hid (fun (W : World) (h : FlatAt W (.slice aq l.length cq) 3 (shrs (zs l))) => cW.out _ W h j hlt)
          have HFL := Lib.hid hfl
          obtain ⟨x, hx⟩ : ∃ x, Sr.wtE l j = x := ⟨_, rfl⟩
          obtain ⟨s1, hs1⟩ : ∃ s, Sr.wsum l j = s := ⟨_, rfl⟩
          obtain ⟨s2, hs2⟩ : ∃ s, Ga.add s1 x = s := ⟨_, rfl⟩
          have HSUM := Lib.hid (show Sr.wsum l (j + 1) = s2 by rw [Sr.wsum, hs1, hx, hs2])
          rw [hx] at hcw
          rw [hs1] at hs
          have H1 := Lib.hid hs2
          clear hx hs1 hs2 hfl
          go_wp2_with fail
          refine (hcw.out _ HFL.out).mono ?_
          rintro e w4 ⟨rfl, h4⟩
          have g4 := hb.trans (h4.mono hb.size)
          have b4 := g4.alloc g4.size (.cells #[.int .i64 x.1, .int .i64 x.2] 24)
          have s4 := (hs.kept h4).alloc (.cells #[.int .i64 x.1, .int .i64 x.2] 24)
          have n4 := EBox.new w4 x.1 x.2
          obtain ⟨C, hC⟩ : ∃ C, w4.heap.size = C := ⟨_, rfl⟩
          rw [hC] at n4
          obtain ⟨p0, p1, _, _⟩ := s4.facts
          obtain ⟨q0, q1, _, _⟩ := n4.facts
          clear hs hb h4 g4 HFL
          go_wp2_with fail
          clear hC
          refine (radd_eq H1.out _).mono ?_
          generalize w4.alloc (.cells #[.int .i64 x.1, .int .i64 x.2] 24) = w5 at *
          rintro e w6 ⟨rfl, h6⟩
          have s6 := s4.kept h6
          have b6 := b4.trans (h6.mono b4.size)
          obtain ⟨d0, d1, f0, f1⟩ := s6.facts
          clear s4 b4 h6 p0 p1 q0 q1 n4
          go_wp2_with fail
          go_roundw
          case rel =>
            exact ⟨j + 1, by go_num, by omega, by rw [HSUM.out]; exact s6.set s2.1 s2.2, (b6.setCell (p := ⟨B, 0, none⟩) HLE.out _).setCell (p := ⟨B, 1, none⟩) HLE.out _⟩
          case measure => simp [intOf]; omega
        · obtain rfl : j = l.length := by omega
          by_cases h0 : l.length = 0
          · have t1 : ((l.length : Int) == 0) = true := by rw [beq_iff_eq]; omega
            clear h0
            go_wp2
            go_ret
            exact ⟨rfl, HTR.out _ hb⟩
          · have t1 : ((l.length : Int) == 0) = false := by rw [beq_eq_false_iff_ne]; omega
            rw [HONE.out h0] at hs
            obtain ⟨d0, d1, _, _⟩ := hs.facts
            clear h0
            go_wp2
            go_ret
            exact ⟨rfl, HTR.out _ hb⟩

theorem shareWeights_walk {H : Type} (enc : TypeId × Value → H) (W : World) (base : Nat) (v0 : Value) (d0 : DataW H) (p0 : List MemPlace)
    (h0 : DataW.Trod enc Try.prog W 0 (fun _ => true) true 43 v0 d0 p0) (o0 : Value.okWide Try.prog W .any base 43 v0)
    (_hsz : (DataW.weightsEach Try.prog [43] [d0]).all (· ≤ reachBytes) = true) :
    Calls Try.prog 9 #[v0] W fun e W' => e = .returned (.bool true) ∧ Below W.heap.size W W' := by
  obtain ⟨a0, len, cap, rfl⟩ := okWide_slice Try.underlying43 o0
  obtain ⟨n0, e0⟩ := h0
  obtain ⟨l, hl, hn, _⟩ := trod_ints (y := (d0, p0)) Try.underlying43 e0
  exact shareWeights_core _ l W hl hn
end Go.Proofs.Ytngmkokmomficaa
