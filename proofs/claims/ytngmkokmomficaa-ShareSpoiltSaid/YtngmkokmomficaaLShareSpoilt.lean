/- ShareSpoilt: the walk. (Written by gen-lsh4.py.) -/
import Derived.Test.YtngmkokmomficaaShShr
import Derived.Deep.AppendLies
namespace Go.Proofs.Ytngmkokmomficaa
open Go.RowKit Go.ChangeShapes Go.WideShapes Go.ChangeAt
attribute [local go_sem] build_el build_el0 build_el1 build_el2 guard_el eqE_self
attribute [local go_sem ↓] eq_elE

theorem shrs_set (l : List Sr.Shr) (k : Nat) (h : k < l.length) (v : Ga.E) : ((shrs l).set (k * 3 + 1) (.int .i64 v.1)).set (k * 3 + 1 + 1) (.int .i64 v.2) = shrs (l.set k (l[k].1, v)) := by
  induction l generalizing k with
  | nil => simp at h
  | cons s l ih =>
    cases k with
    | zero => simp [shrs_cons, iv]
    | succ k =>
      have := ih k (by simpa using h)
      rw [shrs_cons, show (k + 1) * 3 + 1 = (k * 3 + 1) + 3 by omega, show k * 3 + 1 + 3 + 1 = (k * 3 + 1 + 1) + 3 by omega]
      simp only [List.set_cons_succ, List.getElem_cons_succ, shrs_cons]
      rw [this]
/-- Another value is put into a share of a row of the call's own. -/
theorem own_put {w : World} {base g cap : Nat} {l : List Sr.Shr} {n : Nat} (h : w.ownsRow base 27 3 (.slice (some ⟨g, 0, none⟩) n cap) n (shrs l)) (k : Nat) (hk : k < l.length) (v : Ga.E) :
    ((w.setCell ⟨g, k * 3 + 1, none⟩ (.int .i64 v.1)).setCell ⟨g, k * 3 + 1 + 1, none⟩ (.int .i64 v.2)).ownsRow base 27 3 (.slice (some ⟨g, 0, none⟩) n cap) n (shrs (l.set k (l[k].1, v))) := by
  have := ((h.stored (k * 3 + 1) (.int .i64 v.1)).1.stored (k * 3 + 1 + 1) (.int .i64 v.2)).1
  rwa [shrs_set l k hk v] at this
/-- The cells of a share of a row of the call's own. -/
theorem own_at {w : World} {base g cap : Nat} {l : List Sr.Shr} {n : Nat} (h : w.ownsRow base 27 3 (.slice (some ⟨g, 0, none⟩) n cap) n (shrs l)) (k : Nat) (hk : k < l.length) (hn : l.length = n) :
    (w.cell? ⟨g, k * 3, none⟩ = some (.int .i64 l[k].1) ∧ w.cell? ⟨g, k * 3 + 1, none⟩ = some (.int .i64 l[k].2.1) ∧ w.cell? ⟨g, k * 3 + 1 + 1, none⟩ = some (.int .i64 l[k].2.2)) ∧ ∀ j, w.frozen? ⟨g, j, none⟩ = false := by
  obtain ⟨a0, a1, a2⟩ := shrs_at l k hk
  exact ⟨⟨by rw [h.cellAt _ (by omega), a0]; rfl, by rw [h.cellAt _ (by omega), a1]; rfl, by rw [h.cellAt _ (by omega)]; rw [show k * 3 + 1 + 1 = k * 3 + 2 by omega, a2]; rfl⟩, h.frozenAt⟩
theorem row_not {w : World} {B n k : Nat} {t : TypeId} {v : Value} {cs : List Value} (h : w.ownsRow B t k v n cs) {g : Nat} {t' : TypeId} {cur : Array Value} {fz : Nat × Nat} (hg : w.heap[g]? = some (.cells cur t' fz)) (hne : t' ≠ t) : some g ≠ v.ownBlock := by
  intro e
  rcases h.2 with ⟨rfl, _⟩ | ⟨g', cap, cur', rfl, _, hh, _⟩
  · simp [Value.ownBlock] at e
  · have : g = g' := Option.some.inj e
    subst this
    rw [hg] at hh
    injection hh with hh
    injection hh with _ hh _
    exact hne hh

set_option maxHeartbeats 8000000 in
set_option maxRecDepth 100000 in
theorem shareSpoilt_no (vp vi : Value) (p : List Ga.E) (ids : List Int) (at' : Int) (v : Ga.E) (w : World) (hp : FlatAt w vp 2 (elems p)) (hi : FlatAt w vi 1 (ints ids)) (lp : p.length ≤ 140737488351232) (li : ids.length ≤ 9223372036854775807)
    (h : p.all Ga.ok = false ∨ Ga.ok v = false ∨ p.length < 1 ∨ (Sr.dis ids []).length < p.length ∨ at' < 0 ∨ (p.length : Int) ≤ at') :
    Calls Try.prog 10 #[.agg #[vp, vi, .int .i64 at', .int .i64 v.1, .int .i64 v.2]] w fun e w' => e = .returned (.bool true) ∧ Below w.heap.size w w' := by
  have cD := Lib.hid (fun (W : World) (hw : Below w.heap.size w W) => distinct_any vi ids W (hi.below hw) li)
  have cR := Lib.hid (fun (W : World) (hw : Below w.heap.size w W) => right_any vp p W (hp.below hw) lp)
  obtain ⟨l, hl⟩ : ∃ l, Sr.dis ids [] = l := ⟨_, rfl⟩
  rw [hl] at cD h
  obtain ⟨ap, cp, rfl⟩ := hp.len (n := p.length) (elems_len p) (by omega)
  obtain ⟨ai, ci, rfl⟩ := hi.len (n := ids.length) (ints_len ids) (by omega)
  obtain ⟨r, hr⟩ : ∃ r, p.all Ga.ok = r := ⟨_, rfl⟩
  obtain ⟨m, hm⟩ : ∃ r, Ga.ok v = r := ⟨_, rfl⟩
  have HM := Lib.hid hm
  rw [hr] at cR h
  rw [hm] at h
  clear hp hi hl hr hm
  have hcase : (r = false) ∨ (r = true ∧ m = false) ∨ (r = true ∧ m = true ∧ decide ((p.length : Int) < 1) = true) ∨ (r = true ∧ m = true ∧ decide ((p.length : Int) < 1) = false ∧ decide (l.length < p.length) = true)
      ∨ (r = true ∧ m = true ∧ decide ((p.length : Int) < 1) = false ∧ decide (l.length < p.length) = false ∧ decide (at' < 0) = true) ∨ (r = true ∧ m = true ∧ decide ((p.length : Int) < 1) = false ∧ decide (l.length < p.length) = false ∧ decide (at' < 0) = false ∧ decide ((p.length : Int) ≤ at') = true) := by
    cases r
    · exact .inl rfl
    · cases m
      · exact .inr (.inl ⟨rfl, rfl⟩)
      · by_cases h1 : p.length < 1
        · exact .inr (.inr (.inl ⟨rfl, rfl, by rw [decide_eq_true_iff]; omega⟩))
        · by_cases h2 : l.length < p.length
          · exact .inr (.inr (.inr (.inl ⟨rfl, rfl, by rw [decide_eq_false_iff_not]; omega, decide_eq_true h2⟩)))
          · by_cases h3 : at' < 0
            · exact .inr (.inr (.inr (.inr (.inl ⟨rfl, rfl, by rw [decide_eq_false_iff_not]; omega, decide_eq_false h2, decide_eq_true h3⟩))))
            · refine .inr (.inr (.inr (.inr (.inr ⟨rfl, rfl, by rw [decide_eq_false_iff_not]; omega, decide_eq_false h2, decide_eq_false h3, ?_⟩))))
              rw [decide_eq_true_iff]
              rcases h with h | h | h | h | h | h
              · cases h
              · cases h
              · exact absurd h h1
              · exact absurd h h2
              · exact absurd h h3
              · exact h
  clear h
  have gb0 : Below w.heap.size w (w.alloc (.cells #[.slice ap p.length cp, .slice ai ids.length ci, .int .i64 at', .int .i64 v.1, .int .i64 v.2] 55)) := (Below.refl _ _).alloc (Nat.le_refl _) _
  have gb1 := gb0.alloc gb0.size (.cells #[.int .i64 v.1, .int .i64 v.2] 24)
  have bx := EBox.new (w.alloc (.cells #[.slice ap p.length cp, .slice ai ids.length ci, .int .i64 at', .int .i64 v.1, .int .i64 v.2] 55)) v.1 v.2
  simp only [World.size_alloc] at bx
  rcases hcase with rfl | ⟨rfl, rfl⟩ | ⟨rfl, rfl, t1⟩ | ⟨rfl, rfl, t1, t2⟩ | ⟨rfl, rfl, t1, t2, t3⟩ | ⟨rfl, rfl, t1, t2, t3, t4⟩
  all_goals
    go_enter Try.func10, Try.ntmps10
    go_wp2_with fail
    refine (shShown_any _).mono ?_
    rintro e w1 ⟨rfl, h1⟩
    have hb1 := gb1.trans (h1.mono gb1.size)
    have bx1 := bx.kept h1
    go_wp2_with fail
    refine (cD.out _ hb1).mono ?_
    rintro e w2 ⟨u, rfl, hu, h2⟩
    have hb2 := hb1.trans (h2.mono hb1.size)
    have bx2 := bx1.kept h2
    obtain ⟨au, cu, rfl⟩ := hu.len (n := l.length) (ints_len l) (by omega)
    clear hu
    go_wp2_with fail
    refine (cR.out _ hb2).mono ?_
    rintro e w3 ⟨rfl, h3⟩
    have hb3 := hb2.trans (h3.mono hb2.size)
    have bx3 := bx2.kept h3
    obtain ⟨x0, x1, _, _⟩ := bx3.facts
    clear gb0 gb1 bx h1 hb1 bx1 h2 hb2 bx2 h3
    go_wp2_with fail
    refine (r_may HM.out _).mono ?_
    rintro e w4 ⟨rfl, h4⟩
    have hb4 := hb3.trans (h4.mono hb3.size)
    clear hb3 bx3 x0 x1 h4
    go_wp2
    go_ret
    exact ⟨rfl, hb4⟩

theorem spoilt_eq (p : List Ga.E) (hp : p.all Ga.ok = true) (l : List Int) (ha : Sr.apart l = true) (k : Nat) (hk : k < p.length) (hl : p.length ≤ l.length) (v : Ga.E) (hv : Ga.ok v = true) (s : Sr.Shr) (hs : (Sr.shr p (l.take p.length))[k]? = some s) :
    ∃ x, Sr.openE ((Sr.shr p (l.take p.length)).set k (s.1, v)) = (x, 0) ∧ (x = (p.getD 0 (0, 0)) ↔ v = s.2) := by
  have hlt : (l.take p.length).length = p.length := by rw [List.length_take]; omega
  have hk' : k < (Sr.shr p (l.take p.length)).length := by rw [Sr.shr_len, hlt]; exact hk
  rw [List.getElem?_eq_getElem hk'] at hs
  injection hs with hs
  obtain ⟨x, h1, h2⟩ := Sr.spoilt p hp (l.take p.length) (Sr.apart_take ha _) k hk' (by omega) (by rw [hlt]; omega) v hv
  rw [hs] at h1 h2
  exact ⟨x, h1, by rw [Sr.getD_at _ _ (by omega)]; exact h2⟩
set_option maxHeartbeats 8000000 in
set_option maxRecDepth 100000 in
theorem shareSpoilt_yes (vp vi : Value) (p : List Ga.E) (ids : List Int) (k : Nat) (v : Ga.E) (w : World) (hp : FlatAt w vp 2 (elems p)) (hi : FlatAt w vi 1 (ints ids)) (lp : p.length ≤ 140737488351232) (li : ids.length ≤ 9223372036854775807)
    (hok : p.all Ga.ok = true) (hv : Ga.ok v = true) (h1 : 0 < p.length) (h2 : p.length ≤ (Sr.dis ids []).length) (hk : k < p.length) :
    Calls Try.prog 10 #[.agg #[vp, vi, .int .i64 k, .int .i64 v.1, .int .i64 v.2]] w fun e w' => e = .returned (.bool true) ∧ Below w.heap.size w w' := by
  obtain ⟨i0, hi0, hz0, hz1, hz2⟩ := info_parts info_shr
  have cD := Lib.hid (fun (W : World) (hw : Below w.heap.size w W) => distinct_any vi ids W (hi.below hw) li)
  have cR := Lib.hid (fun (W : World) (hw : Below w.heap.size w W) => right_any vp p W (hp.below hw) lp)
  rw [hok] at cR
  have hap := Sr.dis_apart ids [] (by decide)
  obtain ⟨l, hl⟩ : ∃ l, Sr.dis ids [] = l := ⟨_, rfl⟩
  rw [hl] at cD hap h2
  have hll := Sr.apart_len hap
  have cO' := Lib.hid (fun (W : World) (hw : Below w.heap.size w W) (j : Nat) (hj : j < l.length) => (show Calls Try.prog 12 #[vp, .int .i64 l[j]] W fun e w' => e = .returned (.tuple #[shv (l[j], Sr.evalE p (l[j], 0)), .int .i64 0]) ∧ Below W.heap.size W w' from by
    have := pof_sh vp p l[j] W (hp.below hw) lp
    rwa [ofE_yes p hok l hap j hj] at this))
  have HE := Lib.hid (fun (W : World) (hw : Below w.heap.size w W) => elems_row hp hw h1)
  have HSP := Lib.hid (spoilt_eq p hok l hap k hk h2 v hv)
  have HWI := Lib.hid (fun (s : Sr.Shr) (hs : (Sr.shr p (l.take p.length))[k]? = some s) => (show Wide ((Sr.shr p (l.take p.length)).set k (s.1, v)) from by
    intro q hq
    have hw := shr_wide p (l.take p.length) (Sr.apart_take hap _)
    rcases List.mem_or_eq_of_mem_set hq with h | h
    · exact hw q h
    · rw [h]
      exact hw s (List.mem_of_getElem? hs)))
  have HST := Lib.hid (shr_step p l)
  have HSL := Lib.hid (shr_take_len p l)
  obtain ⟨ap, cp, rfl⟩ := hp.len (n := p.length) (elems_len p) (by omega)
  obtain ⟨ai, ci, rfl⟩ := hi.len (n := ids.length) (ints_len ids) (by omega)
  have t1 : decide ((p.length : Int) < 1) = false := by rw [decide_eq_false_iff_not]; omega
  have t2 : decide (l.length < p.length) = false := decide_eq_false (by omega)
  have t3 : decide ((k : Int) < 0) = false := by rw [decide_eq_false_iff_not]; omega
  have t4 : decide (p.length ≤ k) = false := decide_eq_false (by omega)
  have HV := Lib.hid hv
  clear hp hi hl hap hok hv
  have hi := hi0
  have gb0 : Below w.heap.size w (w.alloc (.cells #[.slice ap p.length cp, .slice ai ids.length ci, .int .i64 k, .int .i64 v.1, .int .i64 v.2] 55)) := (Below.refl _ _).alloc (Nat.le_refl _) _
  have gb1 := gb0.alloc gb0.size (.cells #[.int .i64 v.1, .int .i64 v.2] 24)
  have bx := EBox.new (w.alloc (.cells #[.slice ap p.length cp, .slice ai ids.length ci, .int .i64 k, .int .i64 v.1, .int .i64 v.2] 55)) v.1 v.2
  simp only [World.size_alloc] at bx
  go_enter Try.func10, Try.ntmps10
  go_wp2_with fail
  refine (shShown_any _).mono ?_
  rintro e w1 ⟨rfl, h1'⟩
  have hb1 := gb1.trans (h1'.mono gb1.size)
  have bx1 := bx.kept h1'
  go_wp2_with fail
  refine (cD.out _ hb1).mono ?_
  rintro e w2 ⟨u, rfl, hu, h2'⟩
  have hb2 := hb1.trans (h2'.mono hb1.size)
  have bx2 := bx1.kept h2'
  obtain ⟨au, cu, rfl⟩ := hu.len (n := l.length) (ints_len l) (by omega)
  have HU := Lib.hid hu
  clear hu
  go_wp2_with fail
  refine (cR.out _ hb2).mono ?_
  rintro e w3 ⟨rfl, h3⟩
  have hb3 := hb2.trans (h3.mono hb2.size)
  have bx3 := bx2.kept h3
  have HU3 := Lib.hid (HU.out.below h3)
  obtain ⟨x0, x1, _, _⟩ := bx3.facts
  clear gb0 gb1 bx h1' hb1 bx1 h2' hb2 bx2 h3 HU
  go_wp2_with fail
  refine (r_may HV.out _).mono ?_
  rintro e wS ⟨rfl, h4⟩
  have hbS := hb3.trans (h4.mono hb3.size)
  have HBX := Lib.hid (bx3.kept h4)
  have hrow := Lib.hid (fun (W : World) (hw : Below wS.heap.size wS W) (h0 : 0 < l.length) => ints_row (HU3.out.below h4) hw h0)
  have HTR := Lib.hid (fun (W : World) (hw : Below wS.heap.size wS W) => hbS.trans (hw.mono hbS.size))
  have cO := Lib.hid (fun (W : World) (hw : Below wS.heap.size wS W) (j : Nat) (hj : j < l.length) => cO'.out W (HTR.out W hw) j hj)
  clear hb3 bx3 x0 x1 h4 cR cD hbS
  go_wp2_with fail
  go_loopw [11, 12] (fun q k wr => ∃ j : Nat, k = .int .i64 j ∧ j ≤ p.length ∧ wr.ownsRow wS.heap.size 27 3 q (Sr.shr p (l.take j)).length (shrs (Sr.shr p (l.take j))) ∧ Below wS.heap.size wS wr) (fun _ k _ => p.length - (intOf k).toNat)
  case atStart => exact ⟨0, rfl, by omega, World.ownsRow_nil _ _ _ _, Below.refl _ _⟩
  case round =>
    obtain ⟨j, rfl, hj, hown, hb⟩ := hrel
    by_cases hlt : j < p.length
    · obtain ⟨b, off, cap, hv, hc⟩ := hrow.out _ hb (by omega)
      injection hv with e1 _ e2
      subst e1 e2
      have hjl : j < l.length := by omega
      have c0 := hc j hjl
      have hst := HST.out j hjl
      have hsl := HSL.out j (by omega)
      have hcx := Lib.hid (fun (W : World) (h : Below wS.heap.size wS W) => cO.out W h j hjl)
      obtain ⟨x, hx⟩ : ∃ x, l[j] = x := ⟨_, rfl⟩
      rw [hx] at c0 hst hcx
      obtain ⟨z, hz⟩ : ∃ z, Sr.evalE p (x, 0) = z := ⟨_, rfl⟩
      rw [hz] at hst hcx
      have HSTEP := Lib.hid hst
      have HW := Lib.hid hown
      have HNW := Lib.hid (fun (W : World) (n : Nat) (hn : n = W.heap.size) => (show ∀ q u, [Value.int .i64 x, .int .i64 z.1, .int .i64 z.2][q]? = some u → (W.alloc (.cells #[.int .i64 x, .int .i64 z.1, .int .i64 z.2] 27)).cell? ((⟨n, 0, none⟩ : Addr).add q) = some u from by subst hn; exact new_cells W [.int .i64 x, .int .i64 z.1, .int .i64 z.2] 27))
      have tj : decide (j < p.length) = true := decide_eq_true hlt
      have tj2 : (j : Int) < (l.length : Int) := by omega
      clear hc hx hst hown hz
      go_wp2_with fail
      refine (hcx.out _ hb).mono ?_
      rintro e w4 ⟨rfl, h4⟩
      have g4 := hb.trans (h4.mono hb.size)
      have b4 := g4.alloc g4.size (.cells #[.int .i64 x, .int .i64 z.1, .int .i64 z.2] 27)
      have HW4 := Lib.hid ((own_below HW.out h4).alloc (.cells #[.int .i64 x, .int .i64 z.1, .int .i64 z.2] 27))
      clear hb h4
      go_wp2_with (at_builtin; refine wpList_append_own _ rfl _ _ 35 rfl wS.heap.size 27 i0 (.agg #[.int .i64 0, .int .i64 0, .int .i64 0]) 3 24 Try.underlying35 hi hz0 hz1 hz2 rfl (by decide) _ _ _ rfl (HW4.out.alloc _) ⟨_, 0, none⟩ 1 1 [.int .i64 x, .int .i64 z.1, .int .i64 z.2] rfl rfl (HNW.out _ _ (by simp)) (by intro u hu; simp at hu; rcases hu with rfl | rfl | rfl <;> rfl) (by unfold maxLen; omega) (by omega) (by have := b4.size; simp at this ⊢; omega) ?_; intro v5 w5 hown5 hg5 _; have HO5 := Lib.hid hown5; have HG5 := Lib.hid hg5; clear hown5 hg5)
      go_roundw
      case rel =>
        refine ⟨j + 1, by go_num, by omega, ?_, (b4.alloc b4.size _).grown HG5.out (by have := b4.size; simp at this ⊢; omega) (fun k hk => (HW4.out.lt k hk).1)⟩
        rw [HSTEP.out, shrs_snoc, List.length_append]
        exact HO5.out
      case measure => simp [intOf]; omega
    · obtain rfl : j = p.length := by omega
      obtain ⟨g, cg, hv, hg1, hg2⟩ := World.ownsRow.form hown (by rw [HSL.out p.length h2]; omega)
      subst hv
      rw [HSL.out p.length h2] at hown ⊢
      obtain ⟨⟨s0, s1, s2⟩, sf⟩ := own_at hown k (by rw [HSL.out p.length h2]; exact hk) (HSL.out p.length h2)
      obtain ⟨s, hs⟩ : ∃ s, (Sr.shr p (l.take p.length))[k]? = some s := ⟨_, List.getElem?_eq_getElem (by rw [HSL.out p.length h2]; exact hk)⟩
      have hs' : (Sr.shr p (l.take p.length))[k]'(by rw [HSL.out p.length h2]; exact hk) = s := by rw [List.getElem?_eq_getElem (by rw [HSL.out p.length h2]; exact hk)] at hs; injection hs
      rw [hs'] at s0 s1 s2
      have hput := own_put hown k (by rw [HSL.out p.length h2]; exact hk) v
      rw [hs'] at hput
      have sf1 := sf (k * 3 + 1)
      have sf2 := sf (k * 3 + 1 + 1)
      obtain ⟨x, hx1, hx2⟩ := HSP.out s hs
      have cP := Lib.hid (fun (u : Value) (W : World) (h : FlatAt W u 3 (shrs ((Sr.shr p (l.take p.length)).set k (s.1, v)))) => (show Calls Try.prog 16 #[u] W fun e w' => e = .returned (.tuple #[elv x, .int .i64 0]) ∧ Below W.heap.size W w' from by
        have := popen_any u _ W h (by rw [List.length_set, HSL.out p.length h2]; omega) (HWI.out s hs)
        rwa [hx1] at this))
      have HF := Lib.hid (FlatAt.own (hput.alloc (.cells #[.int .i64 s.2.1, .int .i64 s.2.2] 24)))
      have HX2 := Lib.hid hx2
      have tk : (k : Int) < (p.length : Int) := by omega
      obtain ⟨⟨r0, r1, r2⟩, rf⟩ := own_at (hown.alloc (.cells #[.int .i64 s.2.1, .int .i64 s.2.2] 24)) k (by rw [HSL.out p.length h2]; exact hk) (HSL.out p.length h2)
      rw [hs'] at r0 r1 r2
      have rf1 := rf (k * 3 + 1)
      have rf2 := rf (k * 3 + 1 + 1)
      obtain ⟨c, hc⟩ : ∃ c, p.getD 0 (0, 0) = c := ⟨_, rfl⟩
      rw [hc] at HX2
      have HC := Lib.hid (show p[0] = c by rw [← hc, Sr.getD_at _ _ h1])
      have HBXr := Lib.hid (HBX.out.kept hb)
      have bw2 := EBox.new ((wr.setCell ⟨g, k * 3 + 1, none⟩ (.int .i64 v.1)).setCell ⟨g, k * 3 + 1 + 1, none⟩ (.int .i64 v.2)) s.2.1 s.2.2
      simp only [World.size_setCell] at bw2
      obtain ⟨x0, x1, _, _⟩ := (HBX.out.kept hb).facts
      obtain ⟨y0, y1, _, _⟩ := ((HBX.out.kept hb).alloc (.cells #[.int .i64 s.2.1, .int .i64 s.2.2] 24)).facts
      obtain ⟨C, hC⟩ : ∃ C, wr.heap.size = C := ⟨_, rfl⟩
      have hgC : g < C := by rw [← hC]; exact hg2
      rw [hC] at bw2
      have hSg : wS.heap.size ≤ g := hg1
      have hvg : w.heap.size + 1 < g := by have := HBX.out.lt; omega
      have bv2 := ((HBXr.out.other g (k * 3 + 1) (.int .i64 v.1) (by omega)).other g (k * 3 + 1 + 1) (.int .i64 v.2) (by omega)).alloc (.cells #[.int .i64 s.2.1, .int .i64 s.2.2] 24)
      have hb1 := (hb.setCell (p := ⟨g, k * 3 + 1, none⟩) hSg (.int .i64 v.1)).setCell (p := ⟨g, k * 3 + 1 + 1, none⟩) hSg (.int .i64 v.2)
      have hb2 := hb1.alloc hb1.size (.cells #[.int .i64 s.2.1, .int .i64 s.2.2] 24)
      clear hown sf rf hs hs' hput hx1 hx2 hg1 hg2 hrow cO cO' hb hb1 hc
      go_wp2_with fail
      clear hC
      refine (cP.out _ _ HF.out).mono ?_
      clear r0 r1 r2 rf1 rf2 s0 s1 s2 sf1 sf2 x0 x1 y0 y1
      generalize ((wr.setCell ⟨g, k * 3 + 1, none⟩ (.int .i64 v.1)).setCell ⟨g, k * 3 + 1 + 1, none⟩ (.int .i64 v.2)).alloc (.cells #[.int .i64 s.2.1, .int .i64 s.2.2] 24) = w5 at *
      rintro e w6 ⟨rfl, h6⟩
      have g6 := hb2.trans (h6.mono hb2.size)
      have b6 := g6.alloc g6.size (.cells #[.int .i64 x.1, .int .i64 x.2] 24)
      have bw6 := (bw2.kept h6).alloc (.cells #[.int .i64 x.1, .int .i64 x.2] 24)
      have bv6 := (bv2.kept h6).alloc (.cells #[.int .i64 x.1, .int .i64 x.2] 24)
      have bx6 := EBox.new w6 x.1 x.2
      obtain ⟨C6, hC6⟩ : ∃ C, w6.heap.size = C := ⟨_, rfl⟩
      rw [hC6] at bx6
      have HB6 := Lib.hid (HTR.out _ b6)
      clear h6 g6 bw2 bv2 hb2 HF b6
      go_wp2_with fail
      clear hC6
      generalize w6.alloc (.cells #[.int .i64 x.1, .int .i64 x.2] 24) = w7 at *
      obtain ⟨a0, a1, _, _⟩ := bw6.facts
      obtain ⟨b0, b1, _, _⟩ := bv6.facts
      obtain ⟨d0, d1, _, _⟩ := bx6.facts
      obtain ⟨b, off, cap, hv, hbl, hcc⟩ := HE.out _ HB6.out
      injection hv with e1 _ e2
      subst e1 e2
      obtain ⟨c0, c1⟩ := hcc 0 h1
      rw [HC.out] at c0 c1
      simp only [Nat.zero_mul, Nat.add_zero] at c0 c1
      have hbb : ∃ bb, eqE x.1 x.2 c.1 c.2 = bb ∧ eqE v.1 v.2 s.2.1 s.2.2 = bb := by
        by_cases hq : x = c
        · exact ⟨true, eqE_eq hq, eqE_eq (HX2.out.1 hq)⟩
        · exact ⟨false, eqE_ne hq, eqE_ne fun e => hq (HX2.out.2 e)⟩
      obtain ⟨bb, q1, q2⟩ := hbb
      clear hcc bw6 bv6 bx6
      cases bb
      all_goals
        go_quiet (fail)
        go_wp2
        go_ret
        exact ⟨rfl, below_drewN HB6.out _⟩

theorem shareSpoilt_walk {H : Type} (enc : TypeId × Value → H) (W : World) (base : Nat) (v0 : Value) (d0 : DataW H) (p0 : List MemPlace)
    (h0 : DataW.Trod enc Try.prog W 0 (fun _ => true) true 55 v0 d0 p0) (o0 : Value.okWide Try.prog W .any base 55 v0)
    (hsz : (DataW.weightsEach Try.prog [55] [d0]).all (· ≤ reachBytes) = true) :
    Calls Try.prog 10 #[v0] W fun e W' => e = .returned (.bool true) ∧ Below W.heap.size W W' := by
  simp only [DataW.weightsEach, List.all_append, Bool.and_eq_true] at hsz
  have hu := Try.underlying55
  have k0 : Try.prog.cellsOf 22 = 1 := by kernel_rfl
  have k1 : Try.prog.cellsOf 43 = 1 := by kernel_rfl
  have k2 : Try.prog.cellsOf 3 = 1 := by kernel_rfl
  have k3 : Try.prog.cellsOf 24 = 2 := by kernel_rfl
  have k5 : Try.prog.cellsOf 55 = 5 := by kernel_rfl
  obtain ⟨cs, rfl, hcs⟩ := okWide_struct hu o0
  obtain ⟨n0, e0⟩ := h0
  obtain ⟨xs, m, _, hx, _, hlen, hf⟩ := DataW.trod_struct hu e0
  simp only [Prod.mk.injEq] at hx
  obtain ⟨rfl, rfl⟩ := hx
  rw [k5] at hcs
  obtain ⟨c0, c1, c2, c3, c4, rfl⟩ : ∃ c0 c1 c2 c3 c4, cs = #[c0, c1, c2, c3, c4] := by
    match cs, hcs with
    | ⟨[c0, c1, c2, c3, c4]⟩, _ => exact ⟨_, _, _, _, _, rfl⟩
  match xs, hlen with
  | [y0, y1, y2, y3], _ =>
    simp only [DataW.weights, hu, DataW.weightsEach, List.map_cons, List.map_nil, List.all_append, Bool.and_eq_true] at hsz
    obtain ⟨p, hp, lp⟩ := trod_elems (v := c0) (y := y0) (by simpa [Value.cells, k0] using hf 0 _ rfl) hsz.1.1
    obtain ⟨l, hl, hn, _⟩ := trod_ints (v := c1) (y := y1) Try.underlying43 (by simpa [Value.cells, k1] using hf 1 _ rfl)
    obtain ⟨i, _, _, rfl, _⟩ := trod_i64 (v := c2) (y := y2) Try.underlying3 (by simpa [Value.cells, k2] using hf 2 _ rfl)
    obtain ⟨c, hc, _⟩ := elem_el _ [c3, c4] y3 rfl (by simpa [Value.cells, k3] using hf 3 _ rfl)
    simp only [List.cons.injEq] at hc
    obtain ⟨rfl, rfl, _⟩ := hc
    by_cases h : p.all Ga.ok = false ∨ Ga.ok c = false ∨ p.length < 1 ∨ (Sr.dis l []).length < p.length ∨ i < 0 ∨ (p.length : Int) ≤ i
    · exact shareSpoilt_no _ _ p l i c W hp hl (by omega) hn h
    · simp only [not_or, Bool.not_eq_false] at h
      obtain ⟨h1, h2, h3, h4, h5, h6⟩ := h
      obtain ⟨k, rfl⟩ : ∃ k : Nat, i = (k : Int) := ⟨i.toNat, by omega⟩
      exact shareSpoilt_yes _ _ p l k c W hp hl (by omega) hn h1 h2 (by omega) (by omega) (by omega)
end Go.Proofs.Ytngmkokmomficaa
