/- ShareSecret: the walk. (Written by gen-lsh3.py.) -/
import Derived.Test.YtngmkokmomficaaShShr
namespace Go.Proofs.Ytngmkokmomficaa
open Go.RowKit Go.ChangeShapes Go.WideShapes Go.ChangeAt
attribute [local go_sem] build_el build_el0 build_el1 build_el2 guard_el eqE_self
attribute [local go_sem ↓] eq_elE

set_option maxHeartbeats 8000000 in
set_option maxRecDepth 100000 in
theorem shareSecret_no (vp vi : Value) (p : List Ga.E) (ids : List Int) (w : World) (hp : FlatAt w vp 2 (elems p)) (hi : FlatAt w vi 1 (ints ids)) (lp : p.length ≤ 140737488351232) (li : ids.length ≤ 9223372036854775807) (h : p.all Ga.ok = false ∨ p.length < 1 ∨ (Sr.dis ids []).length < p.length) :
    Calls Try.prog 5 #[vp, vi] w fun e w' => e = .returned (.bool true) ∧ Below w.heap.size w w' := by
  have cD := Lib.hid (fun (W : World) (hw : Below w.heap.size w W) => distinct_any vi ids W (hi.below hw) li)
  have cR := Lib.hid (fun (W : World) (hw : Below w.heap.size w W) => right_any vp p W (hp.below hw) lp)
  obtain ⟨l, hl⟩ : ∃ l, Sr.dis ids [] = l := ⟨_, rfl⟩
  rw [hl] at cD h
  obtain ⟨ap, cp, rfl⟩ := hp.len (n := p.length) (elems_len p) (by omega)
  obtain ⟨ai, ci, rfl⟩ := hi.len (n := ids.length) (ints_len ids) (by omega)
  obtain ⟨r, hr⟩ : ∃ r, p.all Ga.ok = r := ⟨_, rfl⟩
  rw [hr] at cR h
  clear hp hi hl hr
  have hcase : (r = false) ∨ (r = true ∧ decide ((p.length : Int) < 1) = true) ∨ (r = true ∧ decide ((p.length : Int) < 1) = false ∧ decide (l.length < p.length) = true) := by
    cases r
    · exact .inl rfl
    · by_cases h1 : p.length < 1
      · exact .inr (.inl ⟨rfl, by rw [decide_eq_true_iff]; omega⟩)
      · refine .inr (.inr ⟨rfl, by rw [decide_eq_false_iff_not]; omega, ?_⟩)
        rcases h with h | h | h
        · cases h
        · exact absurd h h1
        · exact decide_eq_true h
  clear h
  rcases hcase with rfl | ⟨rfl, t1⟩ | ⟨rfl, t1, t2⟩
  all_goals
    go_enter Try.func5, Try.ntmps5
    go_wp2_with fail
    refine (shShown_any _).mono ?_
    rintro e w1 ⟨rfl, hb0⟩
    go_wp2_with fail
    refine (cD.out _ hb0).mono ?_
    rintro e w2 ⟨u, rfl, hu, h2⟩
    have hb2 := hb0.trans (h2.mono hb0.size)
    obtain ⟨au, cu, rfl⟩ := hu.len (n := l.length) (ints_len l) (by omega)
    clear hu
    go_wp2_with fail
    refine (cR.out _ hb2).mono ?_
    rintro e w3 ⟨rfl, h3⟩
    have hb3 := hb2.trans (h3.mono hb2.size)
    clear hb0 h2 hb2 h3
    go_wp2
    go_ret
    exact ⟨rfl, hb3⟩
set_option maxHeartbeats 8000000 in
set_option maxRecDepth 100000 in
theorem shareSecret_yes (vp vi : Value) (p : List Ga.E) (ids : List Int) (w : World) (hp : FlatAt w vp 2 (elems p)) (hi : FlatAt w vi 1 (ints ids)) (lp : p.length ≤ 140737488351232) (li : ids.length ≤ 9223372036854775807) (hok : p.all Ga.ok = true) (h1 : 0 < p.length) (h2 : p.length ≤ (Sr.dis ids []).length) :
    Calls Try.prog 5 #[vp, vi] w fun e w' => e = .returned (.bool true) ∧ Below w.heap.size w w' := by
  obtain ⟨i0, hi0, hz0, hz1, hz2⟩ := info_parts info_shr
  have cD := Lib.hid (fun (W : World) (hw : Below w.heap.size w W) => distinct_any vi ids W (hi.below hw) li)
  have cR := Lib.hid (fun (W : World) (hw : Below w.heap.size w W) => right_any vp p W (hp.below hw) lp)
  rw [hok] at cR
  have hap := Sr.dis_apart ids [] (by decide)
  obtain ⟨l, hl⟩ : ∃ l, Sr.dis ids [] = l := ⟨_, rfl⟩
  rw [hl] at cD hap h2
  have hll := Sr.apart_len hap
  have cO' := Lib.hid (fun (W : World) (hw : Below w.heap.size w W) (j : Nat) (hj : j < l.length) => (show Calls Try.prog 12 #[vp, .int .i64 l[j]] W fun e w' => e = .returned (.tuple #[shv (l[j], Sr.evalE p (l[j], 0)), .int .i64 0]) ∧ Below W.heap.size W w' from by
    have := pof_sh vp p l[j] W (hp.below hw) lp
    rwa [ofE_yes p hok l hap j hj] at this))
  have HE := Lib.hid (fun (W : World) (hw : Below w.heap.size w W) => elems_row hp hw h1)
  have cP := Lib.hid (fun (u : Value) (W : World) (h : FlatAt W u 3 (shrs (Sr.shr p l))) => (show Calls Try.prog 16 #[u] W fun e w' => e = .returned (.tuple #[elv p[0], .int .i64 0]) ∧ Below W.heap.size W w' from by
    have := popen_any u (Sr.shr p l) W h (by rw [Sr.shr_len]; omega) (shr_wide p l hap)
    rwa [Sr.secret p hok l hap h1 h2] at this))
  have HST := Lib.hid (shr_step p l)
  have HSL := Lib.hid (shr_take_len p l)
  have HEND := Lib.hid (show Sr.shr p (l.take l.length) = Sr.shr p l by rw [List.take_length])
  obtain ⟨ap, cp, rfl⟩ := hp.len (n := p.length) (elems_len p) (by omega)
  obtain ⟨ai, ci, rfl⟩ := hi.len (n := ids.length) (ints_len ids) (by omega)
  have t1 : decide ((p.length : Int) < 1) = false := by rw [decide_eq_false_iff_not]; omega
  have t2 : decide (l.length < p.length) = false := decide_eq_false (by omega)
  clear hp hi hl hap hok
  have hi := hi0
  go_enter Try.func5, Try.ntmps5
  go_wp2_with fail
  refine (shShown_any _).mono ?_
  rintro e w1 ⟨rfl, hb0⟩
  go_wp2_with fail
  refine (cD.out _ hb0).mono ?_
  rintro e w2 ⟨u, rfl, hu, h2'⟩
  have hb2 := hb0.trans (h2'.mono hb0.size)
  obtain ⟨au, cu, rfl⟩ := hu.len (n := l.length) (ints_len l) (by omega)
  have HU := Lib.hid hu
  clear hu
  go_wp2_with fail
  refine (cR.out _ hb2).mono ?_
  rintro e wS ⟨rfl, h3⟩
  have hbS := hb2.trans (h3.mono hb2.size)
  have hrow := Lib.hid (fun (W : World) (hw : Below wS.heap.size wS W) (h0 : 0 < l.length) => ints_row (HU.out.below h3) hw h0)
  have HTR := Lib.hid (fun (W : World) (hw : Below wS.heap.size wS W) => hbS.trans (hw.mono hbS.size))
  have cO := Lib.hid (fun (W : World) (hw : Below wS.heap.size wS W) (j : Nat) (hj : j < l.length) => cO'.out W (HTR.out W hw) j hj)
  clear hb0 h2' hb2 h3 cR cD hbS
  go_wp2_with fail
  go_loopw [8, 9] (fun q k wr => ∃ j : Nat, k = .int .i64 j ∧ j ≤ l.length ∧ wr.ownsRow wS.heap.size 27 3 q (Sr.shr p (l.take j)).length (shrs (Sr.shr p (l.take j))) ∧ Below wS.heap.size wS wr) (fun _ k _ => l.length - (intOf k).toNat)
  case atStart => exact ⟨0, rfl, by omega, World.ownsRow_nil _ _ _ _, Below.refl _ _⟩
  case round =>
    obtain ⟨j, rfl, hj, hown, hb⟩ := hrel
    by_cases hlt : j < l.length
    · obtain ⟨b, off, cap, hv, hc⟩ := hrow.out _ hb (by omega)
      injection hv with e1 _ e2
      subst e1 e2
      have hjl : j < l.length := by omega
      have c0 := hc j hjl
      have hst := HST.out j hjl
      have hsl := HSL.out j (by omega)
      have hcx := Lib.hid (fun (W : World) (h : Below wS.heap.size wS W) => cO.out W h j hjl)
      obtain ⟨x, hx⟩ : ∃ x, l[j] = x := ⟨_, rfl⟩
      rw [hx] at c0 hst hcx
      obtain ⟨z, hz⟩ : ∃ z, Sr.evalE p (x, 0) = z := ⟨_, rfl⟩
      rw [hz] at hst hcx
      have HSTEP := Lib.hid hst
      have HW := Lib.hid hown
      have HNW := Lib.hid (fun (W : World) (n : Nat) (hn : n = W.heap.size) => (show ∀ q u, [Value.int .i64 x, .int .i64 z.1, .int .i64 z.2][q]? = some u → (W.alloc (.cells #[.int .i64 x, .int .i64 z.1, .int .i64 z.2] 27)).cell? ((⟨n, 0, none⟩ : Addr).add q) = some u from by subst hn; exact new_cells W [.int .i64 x, .int .i64 z.1, .int .i64 z.2] 27))
      have tj : decide (j < l.length) = true := decide_eq_true hjl
      have tj2 : (j : Int) < (l.length : Int) := by omega
      clear hc hx hst hown hz
      go_wp2_with fail
      refine (hcx.out _ hb).mono ?_
      rintro e w4 ⟨rfl, h4⟩
      have g4 := hb.trans (h4.mono hb.size)
      have b4 := g4.alloc g4.size (.cells #[.int .i64 x, .int .i64 z.1, .int .i64 z.2] 27)
      have HW4 := Lib.hid ((own_below HW.out h4).alloc (.cells #[.int .i64 x, .int .i64 z.1, .int .i64 z.2] 27))
      clear hb h4
      go_wp2_with (at_builtin; refine wpList_append_own _ rfl _ _ 35 rfl wS.heap.size 27 i0 (.agg #[.int .i64 0, .int .i64 0, .int .i64 0]) 3 24 Try.underlying35 hi hz0 hz1 hz2 rfl (by decide) _ _ _ rfl (HW4.out.alloc _) ⟨_, 0, none⟩ 1 1 [.int .i64 x, .int .i64 z.1, .int .i64 z.2] rfl rfl (HNW.out _ _ (by simp)) (by intro u hu; simp at hu; rcases hu with rfl | rfl | rfl <;> rfl) (by unfold maxLen; omega) (by omega) (by have := b4.size; simp at this ⊢; omega) ?_; intro v5 w5 hown5 hg5 _; have HO5 := Lib.hid hown5; have HG5 := Lib.hid hg5; clear hown5 hg5)
      go_roundw
      case rel =>
        refine ⟨j + 1, by go_num, by omega, ?_, (b4.alloc b4.size _).grown HG5.out (by have := b4.size; simp at this ⊢; omega) (fun k hk => (HW4.out.lt k hk).1)⟩
        rw [HSTEP.out, shrs_snoc, List.length_append]
        exact HO5.out
      case measure => simp [intOf]; omega
    · obtain rfl : j = l.length := by omega
      rw [HEND.out] at hown
      have HF := Lib.hid (FlatAt.own hown)
      have HB := Lib.hid hb
      obtain ⟨c, hc⟩ : ∃ c, p[0] = c := ⟨_, rfl⟩
      have HC := Lib.hid hc
      rw [hc] at cP
      clear hown hb hc hrow cO cO' hj
      go_wp2_with fail
      refine (cP.out _ _ HF.out).mono ?_
      rintro e w4 ⟨rfl, h4⟩
      have g4 := HB.out.trans (h4.mono HB.out.size)
      have b4 := g4.alloc g4.size (.cells #[.int .i64 c.1, .int .i64 c.2] 24)
      have n4 := EBox.new w4 c.1 c.2
      obtain ⟨q0, q1, _, _⟩ := n4.facts
      obtain ⟨b, off, cap, hv, hbl, hcc⟩ := HE.out _ (HTR.out _ b4)
      injection hv with e1 _ e2
      subst e1 e2
      obtain ⟨c0, c1⟩ := hcc 0 h1
      rw [HC.out] at c0 c1
      simp only [Nat.zero_mul, Nat.add_zero] at c0 c1
      obtain ⟨B4, hB4⟩ : ∃ B, w4.heap.size = B := ⟨_, rfl⟩
      rw [hB4] at q0 q1
      have HB4 := Lib.hid (HTR.out _ b4)
      clear h4 g4 n4 hcc b4
      go_wp2_with fail
      clear hB4
      generalize w4.alloc (.cells #[.int .i64 c.1, .int .i64 c.2] 24) = w5 at *
      go_quiet (fail)
      go_wp2
      go_ret
      exact ⟨rfl, below_drewN HB4.out _⟩

theorem shareSecret_walk {H : Type} (enc : TypeId × Value → H) (W : World) (base : Nat) (v0 : Value) (v1 : Value) (d0 : DataW H) (d1 : DataW H) (p0 : List MemPlace) (p1 : List MemPlace)
    (h0 : DataW.Trod enc Try.prog W 0 (fun _ => true) true 22 v0 d0 p0) (o0 : Value.okWide Try.prog W .any base 22 v0)
    (h1 : DataW.Trod enc Try.prog W 0 (fun _ => true) true 43 v1 d1 p1) (o1 : Value.okWide Try.prog W .any base 43 v1)
    (hsz : (DataW.weightsEach Try.prog [22, 43] [d0, d1]).all (· ≤ reachBytes) = true) :
    Calls Try.prog 5 #[v0, v1] W fun e W' => e = .returned (.bool true) ∧ Below W.heap.size W W' := by
  simp only [DataW.weightsEach, List.all_append, Bool.and_eq_true] at hsz
  obtain ⟨a0, len, cap, rfl⟩ := okWide_slice Try.underlying22 o0
  obtain ⟨a1, len1, cap1, rfl⟩ := okWide_slice Try.underlying43 o1
  obtain ⟨n0, e0⟩ := h0
  obtain ⟨n1, e1⟩ := h1
  obtain ⟨p, hp, lp⟩ := trod_elems (y := (d0, p0)) e0 hsz.1
  obtain ⟨l, hl, hn, _⟩ := trod_ints (y := (d1, p1)) Try.underlying43 e1
  by_cases h : p.all Ga.ok = false ∨ p.length < 1 ∨ (Sr.dis l []).length < p.length
  · exact shareSecret_no _ _ p l W hp hl (by omega) hn h
  · simp only [not_or, Bool.not_eq_false] at h
    exact shareSecret_yes _ _ p l W hp hl (by omega) hn h.1 (by omega) (by omega)
end Go.Proofs.Ytngmkokmomficaa
