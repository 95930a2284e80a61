/- ShareHides: the walk. (Written by gen-lsh4.py.) -/
import Derived.Test.YtngmkokmomficaaShShr
import Derived.Deep.AppendLies
import Derived.IntWalk
namespace Go.Proofs.Ytngmkokmomficaa
open Go.RowKit Go.ChangeShapes Go.WideShapes Go.ChangeAt
attribute [local go_sem] build_el build_el0 build_el1 build_el2 guard_el eqE_self
attribute [local go_sem ↓] eq_elE

theorem shrs_set (l : List Sr.Shr) (k : Nat) (h : k < l.length) (v : Ga.E) : ((shrs l).set (k * 3 + 1) (.int .i64 v.1)).set (k * 3 + 1 + 1) (.int .i64 v.2) = shrs (l.set k (l[k].1, v)) := by
  induction l generalizing k with
  | nil => simp at h
  | cons s l ih =>
    cases k with
    | zero => simp [shrs_cons, iv]
    | succ k =>
      have := ih k (by simpa using h)
      rw [shrs_cons, show (k + 1) * 3 + 1 = (k * 3 + 1) + 3 by omega, show k * 3 + 1 + 3 + 1 = (k * 3 + 1 + 1) + 3 by omega]
      simp only [List.set_cons_succ, List.getElem_cons_succ, shrs_cons]
      rw [this]
/-- Another value is put into a share of a row of the call's own. -/
theorem own_put {w : World} {base g cap : Nat} {l : List Sr.Shr} {n : Nat} (h : w.ownsRow base 27 3 (.slice (some ⟨g, 0, none⟩) n cap) n (shrs l)) (k : Nat) (hk : k < l.length) (v : Ga.E) :
    ((w.setCell ⟨g, k * 3 + 1, none⟩ (.int .i64 v.1)).setCell ⟨g, k * 3 + 1 + 1, none⟩ (.int .i64 v.2)).ownsRow base 27 3 (.slice (some ⟨g, 0, none⟩) n cap) n (shrs (l.set k (l[k].1, v))) := by
  have := ((h.stored (k * 3 + 1) (.int .i64 v.1)).1.stored (k * 3 + 1 + 1) (.int .i64 v.2)).1
  rwa [shrs_set l k hk v] at this
/-- The cells of a share of a row of the call's own. -/
theorem own_at {w : World} {base g cap : Nat} {l : List Sr.Shr} {n : Nat} (h : w.ownsRow base 27 3 (.slice (some ⟨g, 0, none⟩) n cap) n (shrs l)) (k : Nat) (hk : k < l.length) (hn : l.length = n) :
    (w.cell? ⟨g, k * 3, none⟩ = some (.int .i64 l[k].1) ∧ w.cell? ⟨g, k * 3 + 1, none⟩ = some (.int .i64 l[k].2.1) ∧ w.cell? ⟨g, k * 3 + 1 + 1, none⟩ = some (.int .i64 l[k].2.2)) ∧ ∀ j, w.frozen? ⟨g, j, none⟩ = false := by
  obtain ⟨a0, a1, a2⟩ := shrs_at l k hk
  exact ⟨⟨by rw [h.cellAt _ (by omega), a0]; rfl, by rw [h.cellAt _ (by omega), a1]; rfl, by rw [h.cellAt _ (by omega)]; rw [show k * 3 + 1 + 1 = k * 3 + 2 by omega, a2]; rfl⟩, h.frozenAt⟩
theorem row_not {w : World} {B n k : Nat} {t : TypeId} {v : Value} {cs : List Value} (h : w.ownsRow B t k v n cs) {g : Nat} {t' : TypeId} {cur : Array Value} {fz : Nat × Nat} (hg : w.heap[g]? = some (.cells cur t' fz)) (hne : t' ≠ t) : some g ≠ v.ownBlock := by
  intro e
  rcases h.2 with ⟨rfl, _⟩ | ⟨g', cap, cur', rfl, _, hh, _⟩
  · simp [Value.ownBlock] at e
  · have : g = g' := Option.some.inj e
    subst this
    rw [hg] at hh
    injection hh with hh
    injection hh with _ hh _
    exact hne hh

set_option maxHeartbeats 8000000 in
set_option maxRecDepth 100000 in
theorem shareHides_no (vp vi : Value) (p : List Ga.E) (ids : List Int) (v : Ga.E) (w : World) (hp : FlatAt w vp 2 (elems p)) (hi : FlatAt w vi 1 (ints ids)) (lp : p.length ≤ 140737488351232) (li : ids.length ≤ 9223372036854775807)
    (h : p.all Ga.ok = false ∨ Ga.ok v = false ∨ p.length < 2 ∨ 12 < p.length ∨ (Sr.dis ids []).length < p.length) :
    Calls Try.prog 6 #[vp, vi, elv v] w fun e w' => e = .returned (.bool true) ∧ Below w.heap.size w w' := by
  have cD := Lib.hid (fun (W : World) (hw : Below w.heap.size w W) => distinct_any vi ids W (hi.below hw) li)
  have cR := Lib.hid (fun (W : World) (hw : Below w.heap.size w W) => right_any vp p W (hp.below hw) lp)
  obtain ⟨l, hl⟩ : ∃ l, Sr.dis ids [] = l := ⟨_, rfl⟩
  rw [hl] at cD h
  obtain ⟨ap, cp, rfl⟩ := hp.len (n := p.length) (elems_len p) (by omega)
  obtain ⟨ai, ci, rfl⟩ := hi.len (n := ids.length) (ints_len ids) (by omega)
  obtain ⟨r, hr⟩ : ∃ r, p.all Ga.ok = r := ⟨_, rfl⟩
  obtain ⟨m, hm⟩ : ∃ r, Ga.ok v = r := ⟨_, rfl⟩
  have HM := Lib.hid hm
  rw [hr] at cR h
  rw [hm] at h
  clear hp hi hl hr hm
  have hcase : (r = false) ∨ (r = true ∧ m = false) ∨ (r = true ∧ m = true ∧ decide ((p.length : Int) < 2) = true) ∨ (r = true ∧ m = true ∧ decide ((p.length : Int) < 2) = false ∧ decide ((12 : Int) < (p.length : Int)) = true)
      ∨ (r = true ∧ m = true ∧ decide ((p.length : Int) < 2) = false ∧ decide ((12 : Int) < (p.length : Int)) = false ∧ decide (l.length < p.length) = true) := by
    cases r
    · exact .inl rfl
    · cases m
      · exact .inr (.inl ⟨rfl, rfl⟩)
      · by_cases h1 : p.length < 2
        · exact .inr (.inr (.inl ⟨rfl, rfl, by rw [decide_eq_true_iff]; omega⟩))
        · by_cases h2 : 12 < p.length
          · exact .inr (.inr (.inr (.inl ⟨rfl, rfl, by rw [decide_eq_false_iff_not]; omega, by rw [decide_eq_true_iff]; omega⟩)))
          · refine .inr (.inr (.inr (.inr ⟨rfl, rfl, by rw [decide_eq_false_iff_not]; omega, by rw [decide_eq_false_iff_not]; omega, ?_⟩)))
            rw [decide_eq_true_iff]
            rcases h with h | h | h | h | h
            · cases h
            · cases h
            · exact absurd h h1
            · exact absurd h h2
            · exact h
  clear h
  have gb0 : Below w.heap.size w (w.alloc (.cells #[.int .i64 v.1, .int .i64 v.2] 24)) := (Below.refl _ _).alloc (Nat.le_refl _) _
  have bx := EBox.new w v.1 v.2
  rcases hcase with rfl | ⟨rfl, rfl⟩ | ⟨rfl, rfl, t1⟩ | ⟨rfl, rfl, t1, t2⟩ | ⟨rfl, rfl, t1, t2, t3⟩
  all_goals
    go_enter Try.func6, Try.ntmps6
    go_wp2_with fail
    refine (shShown_any _).mono ?_
    rintro e w1 ⟨rfl, h1⟩
    have hb1 := gb0.trans (h1.mono gb0.size)
    have bx1 := bx.kept h1
    go_wp2_with fail
    refine (cD.out _ hb1).mono ?_
    rintro e w2 ⟨u, rfl, hu, h2⟩
    have hb2 := hb1.trans (h2.mono hb1.size)
    have bx2 := bx1.kept h2
    obtain ⟨au, cu, rfl⟩ := hu.len (n := l.length) (ints_len l) (by omega)
    clear hu
    go_wp2_with fail
    refine (cR.out _ hb2).mono ?_
    rintro e w3 ⟨rfl, h3⟩
    have hb3 := hb2.trans (h3.mono hb2.size)
    have bx3 := bx2.kept h3
    obtain ⟨x0, x1, _, _⟩ := bx3.facts
    clear gb0 bx h1 hb1 bx1 h2 hb2 bx2 h3
    go_wp2_with fail
    refine (r_may HM.out _).mono ?_
    rintro e w4 ⟨rfl, h4⟩
    have hb4 := hb3.trans (h4.mono hb3.size)
    clear hb3 bx3 x0 x1 h4
    go_wp2
    go_ret
    exact ⟨rfl, hb4⟩
/-- A call keeps whatever abides growth, and a row of the call's own. -/
theorem keepP {F : Nat} {args : Array Value} {r : Value} {w : World} (S : World → Prop) (hk : ∀ a b, S a → Below a.heap.size a b → S b) {U : World → Prop} (hkU : ∀ a b, U a → Below a.heap.size a b → U b) (hu : U w) (hc : Calls Try.prog F args w fun e w' => e = .returned r ∧ Below w.heap.size w w') (h : S w) :
    Calls Try.prog F args w fun e w' => e = .returned r ∧ S w' ∧ U w' :=
  hc.mono fun _ _ ⟨he, hb⟩ => ⟨he, hk _ _ h hb, hkU _ _ hu hb⟩

theorem hides_of (p : List Ga.E) (l : List Int) (ha : Sr.apart l = true) (N : Nat) (hN : N < l.length) (other : Ga.E) (ho : Ga.ok other = true) :
    ∃ sum wt iv', Sr.openE (Sr.shr p (l.take N) ++ [(l[N], 0, 0)]) = (sum, 0) ∧ Sr.weightE (Sr.shr p (l.take N) ++ [(l[N], 0, 0)]) N = (wt, 0) ∧ Ga.invR wt = (iv', 0) ∧ Sr.openE (Sr.shr p (l.take N) ++ [(l[N], Ga.mul (Ga.sub other sum) iv')]) = (other, 0) := by
  have h := Sr.hides (Sr.shr p (l.take N)) l[N] other (by rw [Sr.ids_shr, ← List.take_succ_eq_append_getElem hN]; exact Sr.apart_take ha _) (Sr.shr_ok _ _) ho
  rw [shr_take_len p l N (by omega)] at h
  exact h
theorem wide_of (p : List Ga.E) (l : List Int) (ha : Sr.apart l = true) (N : Nat) (hN : N < l.length) (z : Ga.E) : Wide (Sr.shr p (l.take N) ++ [(l[N], z)]) := by
  intro s hs
  rcases List.mem_append.1 hs with h | h
  · exact shr_wide p (l.take N) (Sr.apart_take ha _) s h
  · rw [List.mem_singleton] at h
    subst h
    have := ((Sr.apart_iff l).1 ha).1 _ (List.getElem_mem hN)
    exact ⟨by simp only; omega, by simp only; omega⟩
theorem set_last (L : List Sr.Shr) (N : Nat) (hL : L.length = N) (x : Int) (y z : Ga.E) (h : N < (L ++ [(x, y)]).length) : (L ++ [(x, y)]).set N (((L ++ [(x, y)])[N]'h).1, z) = L ++ [(x, z)] := by
  subst hL
  rw [List.set_append_right _ _ (Nat.le_refl _), List.getElem_append_right (Nat.le_refl _)]
  simp
set_option maxHeartbeats 16000000 in
set_option maxRecDepth 100000 in
theorem shareHides_yes (vp vi : Value) (p : List Ga.E) (ids : List Int) (v : Ga.E) (w : World) (hp : FlatAt w vp 2 (elems p)) (hi : FlatAt w vi 1 (ints ids)) (li : ids.length ≤ 9223372036854775807)
    (hok : p.all Ga.ok = true) (hv : Ga.ok v = true) (h1 : 2 ≤ p.length) (h12 : p.length ≤ 12) (h2 : p.length ≤ (Sr.dis ids []).length) :
    Calls Try.prog 6 #[vp, vi, elv v] w fun e w' => e = .returned (.bool true) ∧ Below w.heap.size w w' := by
  obtain ⟨i0, hi0, hz0, hz1, hz2⟩ := info_parts info_shr
  have lp : p.length ≤ 140737488351232 := by omega
  have cD := Lib.hid (fun (W : World) (hw : Below w.heap.size w W) => distinct_any vi ids W (hi.below hw) li)
  have cR := Lib.hid (fun (W : World) (hw : Below w.heap.size w W) => right_any vp p W (hp.below hw) lp)
  rw [hok] at cR
  have hap := Sr.dis_apart ids [] (by decide)
  obtain ⟨l, hl⟩ : ∃ l, Sr.dis ids [] = l := ⟨_, rfl⟩
  rw [hl] at cD hap h2
  have hll := Sr.apart_len hap
  have cO' := Lib.hid (fun (W : World) (hw : Below w.heap.size w W) (j : Nat) (hj : j < l.length) => (show Calls Try.prog 12 #[vp, .int .i64 l[j]] W fun e w' => e = .returned (.tuple #[shv (l[j], Sr.evalE p (l[j], 0)), .int .i64 0]) ∧ Below W.heap.size W w' from by
    have := pof_sh vp p l[j] W (hp.below hw) lp
    rwa [ofE_yes p hok l hap j hj] at this))
  have HST := Lib.hid (shr_step p l)
  have HSL := Lib.hid (shr_take_len p l)
  obtain ⟨ap, cp, rfl⟩ := hp.len (n := p.length) (elems_len p) (by omega)
  obtain ⟨ai, ci, rfl⟩ := hi.len (n := ids.length) (ints_len ids) (by omega)
  obtain ⟨N, hN⟩ : ∃ N, p.length = N + 1 := ⟨p.length - 1, by omega⟩
  have hNl : N < l.length := by omega
  have hN12 : N ≤ 11 := by omega
  have hN1 : 1 ≤ N := by omega
  obtain ⟨sum, wt, iv', e1, e2, e3, e4⟩ := hides_of p l hap N hNl v hv
  have HWI := Lib.hid (wide_of p l hap N hNl)
  obtain ⟨x, hx⟩ : ∃ x, l[N] = x := ⟨_, rfl⟩
  rw [hx] at e1 e2 e4 HWI
  obtain ⟨d, hd⟩ : ∃ d, Ga.sub v sum = d := ⟨_, rfl⟩
  obtain ⟨q, hq⟩ : ∃ q, Ga.mul d iv' = q := ⟨_, rfl⟩
  rw [hd, hq] at e4
  have H1 := Lib.hid hd
  have H2 := Lib.hid hq
  have hLL : (Sr.shr p (l.take N)).length = N := shr_take_len p l N (by omega)
  obtain ⟨L, hL⟩ : ∃ L, Sr.shr p (l.take N) = L := ⟨_, rfl⟩
  rw [hL] at e1 e2 e4 HWI hLL
  have HEL := Lib.hid hL
  have HL0 := Lib.hid hLL
  have HLL := Lib.hid (show (L ++ [(x, ((0, 0) : Ga.E))]).length = N + 1 by rw [List.length_append, hLL]; rfl)
  have c1 := Lib.hid (fun (u : Value) (W : World) (h : FlatAt W u 3 (shrs (L ++ [(x, 0, 0)]))) => (show Calls Try.prog 16 #[u] W fun e w' => e = .returned (.tuple #[elv sum, .int .i64 0]) ∧ Below W.heap.size W w' from by
    have := popen_any u _ W h (by rw [HLL.out]; omega) (HWI.out _)
    rwa [e1] at this))
  have c2 := Lib.hid (fun (u : Value) (W : World) (h : FlatAt W u 3 (shrs (L ++ [(x, 0, 0)]))) => (show Calls Try.prog 18 #[u, .int .i64 N] W fun e w' => e = .returned (.tuple #[elv wt, .int .i64 0]) ∧ Below W.heap.size W w' from by
    have := pweight_any u _ N W h (by rw [HLL.out]; omega) (HWI.out _)
    rwa [e2] at this))
  have c3 := Lib.hid (fun (W : World) => rinv_eq e3 W)
  have c4 := Lib.hid (fun (u : Value) (W : World) (h : FlatAt W u 3 (shrs (L ++ [(x, q)]))) => (show Calls Try.prog 16 #[u] W fun e w' => e = .returned (.tuple #[elv v, .int .i64 0]) ∧ Below W.heap.size W w' from by
    have := popen_any u _ W h (by rw [List.length_append, HL0.out]; simp; omega) (HWI.out _)
    rwa [e4] at this))
  have HX := Lib.hid hx
  have HV := Lib.hid hv
  have t1 : decide ((p.length : Int) < 2) = false := by rw [decide_eq_false_iff_not]; omega
  have t2 : decide ((12 : Int) < (p.length : Int)) = false := by rw [decide_eq_false_iff_not]; omega
  have t3 : decide (l.length < p.length) = false := decide_eq_false (by omega)
  have HN := Lib.hid hN
  clear hp hi hl hap hok hv hx hd hq hL hLL e1 e2 e3 e4 hN
  have hi := hi0
  have gb0 : Below w.heap.size w (w.alloc (.cells #[.int .i64 v.1, .int .i64 v.2] 24)) := (Below.refl _ _).alloc (Nat.le_refl _) _
  have bx := EBox.new w v.1 v.2
  go_enter Try.func6, Try.ntmps6
  go_wp2_with fail
  refine (shShown_any _).mono ?_
  rintro e w1 ⟨rfl, h1'⟩
  have hb1 := gb0.trans (h1'.mono gb0.size)
  have bx1 := bx.kept h1'
  go_wp2_with fail
  refine (cD.out _ hb1).mono ?_
  rintro e w2 ⟨u, rfl, hu, h2'⟩
  have hb2 := hb1.trans (h2'.mono hb1.size)
  have bx2 := bx1.kept h2'
  obtain ⟨au, cu, rfl⟩ := hu.len (n := l.length) (ints_len l) (by omega)
  have HU := Lib.hid hu
  clear hu
  go_wp2_with fail
  refine (cR.out _ hb2).mono ?_
  rintro e w3 ⟨rfl, h3⟩
  have hb3 := hb2.trans (h3.mono hb2.size)
  have bx3 := bx2.kept h3
  have HU3 := Lib.hid (HU.out.below h3)
  obtain ⟨x0, x1, _, _⟩ := bx3.facts
  clear gb0 bx h1' hb1 bx1 h2' hb2 bx2 h3 HU
  go_wp2_with fail
  refine (r_may HV.out _).mono ?_
  rintro e wS ⟨rfl, h4⟩
  have hbS := hb3.trans (h4.mono hb3.size)
  have HBX := Lib.hid (bx3.kept h4)
  have hrow := Lib.hid (fun (W : World) (hw : Below wS.heap.size wS W) (h0 : 0 < l.length) => ints_row (HU3.out.below h4) hw h0)
  have HTR := Lib.hid (fun (W : World) (hw : Below wS.heap.size wS W) => hbS.trans (hw.mono hbS.size))
  have cO := Lib.hid (fun (W : World) (hw : Below wS.heap.size wS W) (j : Nat) (hj : j < l.length) => cO'.out W (HTR.out W hw) j hj)
  clear hb3 bx3 x0 x1 h4 cR cD hbS
  go_wp2_with fail
  go_loopw [12, 13] (fun q k wr => ∃ j : Nat, k = .int .i64 j ∧ j ≤ N ∧ wr.ownsRow wS.heap.size 27 3 q (Sr.shr p (l.take j)).length (shrs (Sr.shr p (l.take j))) ∧ Below wS.heap.size wS wr) (fun _ k _ => N - (intOf k).toNat)
  case atStart => exact ⟨0, rfl, by omega, World.ownsRow_nil _ _ _ _, Below.refl _ _⟩
  case round =>
    obtain ⟨j, rfl, hj, hown, hb⟩ := hrel
    by_cases hlt : j < N
    · obtain ⟨b, off, cap, hv, hc⟩ := hrow.out _ hb (by omega)
      injection hv with e1 _ e2
      subst e1 e2
      have hjl : j < l.length := by omega
      have c0 := hc j hjl
      have hst := HST.out j hjl
      have hsl := HSL.out j (by omega)
      have hcx := Lib.hid (fun (W : World) (h : Below wS.heap.size wS W) => cO.out W h j hjl)
      obtain ⟨x, hx⟩ : ∃ x, l[j] = x := ⟨_, rfl⟩
      rw [hx] at c0 hst hcx
      obtain ⟨z, hz⟩ : ∃ z, Sr.evalE p (x, 0) = z := ⟨_, rfl⟩
      rw [hz] at hst hcx
      have HSTEP := Lib.hid hst
      have HW := Lib.hid hown
      have HNW := Lib.hid (fun (W : World) (n : Nat) (hn : n = W.heap.size) => (show ∀ q u, [Value.int .i64 x, .int .i64 z.1, .int .i64 z.2][q]? = some u → (W.alloc (.cells #[.int .i64 x, .int .i64 z.1, .int .i64 z.2] 27)).cell? ((⟨n, 0, none⟩ : Addr).add q) = some u from by subst hn; exact new_cells W [.int .i64 x, .int .i64 z.1, .int .i64 z.2] 27))
      have tj : decide (j + 1 < p.length) = true := decide_eq_true (by rw [HN.out]; omega)
      have tj1 : decide ((j : Int) + 1 < (p.length : Int)) = true := by rw [decide_eq_true_iff, HN.out]; omega
      have tj2 : (j : Int) < (l.length : Int) := by omega
      clear hc hx hst hown hz
      go_wp2_with fail
      refine (hcx.out _ hb).mono ?_
      rintro e w4 ⟨rfl, h4⟩
      have g4 := hb.trans (h4.mono hb.size)
      have b4 := g4.alloc g4.size (.cells #[.int .i64 x, .int .i64 z.1, .int .i64 z.2] 27)
      have HW4 := Lib.hid ((own_below HW.out h4).alloc (.cells #[.int .i64 x, .int .i64 z.1, .int .i64 z.2] 27))
      clear hb h4
      go_wp2_with (at_builtin; refine wpList_append_own _ rfl _ _ 35 rfl wS.heap.size 27 i0 (.agg #[.int .i64 0, .int .i64 0, .int .i64 0]) 3 24 Try.underlying35 hi hz0 hz1 hz2 rfl (by decide) _ _ _ rfl (HW4.out.alloc _) ⟨_, 0, none⟩ 1 1 [.int .i64 x, .int .i64 z.1, .int .i64 z.2] rfl rfl (HNW.out _ _ (by simp)) (by intro u hu; simp at hu; rcases hu with rfl | rfl | rfl <;> rfl) (by unfold maxLen; omega) (by omega) (by have := b4.size; simp at this ⊢; omega) ?_; intro v5 w5 hown5 hg5 _; have HO5 := Lib.hid hown5; have HG5 := Lib.hid hg5; clear hown5 hg5)
      go_roundw
      case rel =>
        refine ⟨j + 1, by go_num, by omega, ?_, (b4.alloc b4.size _).grown HG5.out (by have := b4.size; simp at this ⊢; omega) (fun k hk => (HW4.out.lt k hk).1)⟩
        rw [HSTEP.out, shrs_snoc, List.length_append]
        exact HO5.out
      case measure => simp [intOf]; omega
    · obtain rfl : N = j := by omega
      rw [HEL.out, HL0.out] at hown
      obtain ⟨g0, cg0, hv0, hg1, hg2⟩ := World.ownsRow.form hown (by omega)
      subst hv0
      have hsrc := hown.cells (g := g0) rfl
      obtain ⟨b, off, cap, hv, hc⟩ := hrow.out _ hb (by omega)
      injection hv with e1 _ e2
      subst e1 e2
      have c0 := hc N hNl
      rw [HX.out] at c0
      have tj : decide ((N : Int) + 1 < (p.length : Int)) = false := by rw [decide_eq_false_iff_not, HN.out]; omega
      have tn : (p.length : Int) - 1 = (N : Int) := by rw [HN.out]; omega
      have tl : (N : Int) < (l.length : Int) := by omega
      have hlen12 : (p.length : Int) ≤ 12 := by omega
      clear hc hj
      go_upto_region 15 with fail
      obtain ⟨C0, hC0⟩ : ∃ C, wr.heap.size = C := ⟨_, rfl⟩
      have k16 := KBox.new wr 27 (.int .i64 x) (.int .i64 0) (.int .i64 0)
      rw [hC0] at k16 ⊢
      have hb5 := hb.alloc hb.size (.cells #[.int .i64 x, .int .i64 0, .int .i64 0] 27)
      have hown5 := hown.alloc (.cells #[.int .i64 x, .int .i64 0, .int .i64 0] 27)
      clear hC0 hb hown hsrc c0 hrow hg2 cO cO' HU3 hlt
      generalize wr.alloc (.cells #[.int .i64 x, .int .i64 0, .int .i64 0] 27) = w5 at *
      have hg5 : g0 < w5.heap.size := (hown5.lt g0 rfl).2
      have hC5 := k16.lt
      have HLT := Lib.hid (World.ownsRow_lit (base := wS.heap.size) (e := 27) (size := 3) w5 #[] 0 hb5.size (by decide) rfl)
      have HS6 := Lib.hid ((hown5.alloc (.cells #[] 27)).cells (g := g0) rfl)
      have HK6 := Lib.hid (k16.alloc (.cells #[] 27))
      have HB6 := Lib.hid (hb5.alloc hb5.size (.cells #[] 27))
      have HSZ := Lib.hid hb5.size
      have HNW := Lib.hid (fun (W : World) (n : Nat) (hn : n = W.heap.size) => (show ∀ q u, ([.int .i64 x, .int .i64 0, .int .i64 0] : List Value)[q]? = some u → (W.alloc (.cells #[.int .i64 x, .int .i64 0, .int .i64 0] 27)).cell? ((⟨n, 0, none⟩ : Addr).add q) = some u from by subst hn; exact new_cells W [.int .i64 x, .int .i64 0, .int .i64 0] 27))
      clear k16 hown5 hb5
      go_wp2_with (first
        | (at_builtin; refine wpList_append_own _ rfl _ _ 35 rfl wS.heap.size 27 i0 (.agg #[.int .i64 0, .int .i64 0, .int .i64 0]) 3 24 Try.underlying35 hi hz0 hz1 hz2 rfl (by decide) (.slice (some ⟨w5.heap.size, 0, none⟩) 0 0) 0 [] rfl HLT.out ⟨g0, 0, none⟩ N cg0 (shrs L) rfl (by rw [shrs_len, HL0.out]) HS6.out (shrs_one L) (by unfold maxLen; omega) (by omega) (by have := HSZ.out; simp; omega) ?_; intro v6 w6 hown6 hg6 _; have HO6 := Lib.hid hown6; have HB7 := Lib.hid (HB6.out.grown hg6 (by have := HSZ.out; simp; omega) (fun k hk => (HLT.out.lt k hk).1)); have HK7 := Lib.hid (HK6.out.grown hg6 (by simp [Value.ownBlock]; omega)); obtain ⟨k0, k1, k2⟩ := HK7.out.cells; clear hown6 hg6)
        | (at_builtin; refine wpList_append_own _ rfl _ _ 35 rfl wS.heap.size 27 i0 (.agg #[.int .i64 0, .int .i64 0, .int .i64 0]) 3 24 Try.underlying35 hi hz0 hz1 hz2 rfl (by decide) _ _ _ rfl (HO6.out.alloc _) ⟨_, 0, none⟩ 1 1 [.int .i64 x, .int .i64 0, .int .i64 0] rfl rfl (HNW.out _ _ (by simp)) (by intro u hu; simp at hu; rcases hu with rfl | rfl <;> rfl) (by unfold maxLen; omega) (by omega) (by have := HB7.out.size; simp; omega) ?_; intro v8 w8 hown8 hg8 _; have HO8 := Lib.hid hown8; have HB8 := Lib.hid ((HB7.out.alloc HB7.out.size (.cells #[.int .i64 x, .int .i64 0, .int .i64 0] 27)).grown hg8 (by have := HB7.out.size; simp; omega) (fun k hk => (HO6.out.lt k hk).1)); clear hown8 hg8))
      have hown8 : w8.ownsRow wS.heap.size 27 3 v8 (N + 1) (shrs (L ++ [(x, 0, 0)])) := by
        rw [shrs_snoc]
        simpa using HO8.out
      obtain ⟨g, cg, hv8, hgS, hg8⟩ := World.ownsRow.form hown8 (by omega)
      subst hv8
      have HO := Lib.hid hown8
      have HF := Lib.hid (FlatAt.own hown8)
      have hHg : w.heap.size < g := Nat.lt_of_lt_of_le HBX.out.lt hgS
      have HBV := Lib.hid (HBX.out.kept HB8.out)
      have HGS := Lib.hid hgS
      clear hown8 HO8 HO6 HLT HS6 HK6 HK7 HB6 HB7 k0 k1 k2 HNW HSZ
      refine (c1.out _ _ HF.out).mono ?_
      rintro e w9 ⟨rfl, h9⟩
      have g9 := HB8.out.trans (h9.mono HB8.out.size)
      have b9 := g9.alloc g9.size (.cells #[.int .i64 sum.1, .int .i64 sum.2] 24)
      have o9 := (own_below HO.out h9).alloc (.cells #[.int .i64 sum.1, .int .i64 sum.2] 24)
      have v9 := (HBV.out.kept h9).alloc (.cells #[.int .i64 sum.1, .int .i64 sum.2] 24)
      have s9 := EBox.new w9 sum.1 sum.2
      have hg9 := Nat.lt_of_lt_of_le hg8 h9.size
      obtain ⟨B1, hB1⟩ : ∃ B, w9.heap.size = B := ⟨_, rfl⟩
      rw [hB1] at s9 hg9
      clear h9 g9 HO HF HBV HB8
      go_wp2_with fail
      clear hB1
      generalize w9.alloc (.cells #[.int .i64 sum.1, .int .i64 sum.2] 24) = w10 at *
      have HF := Lib.hid (FlatAt.own o9)
      refine (c2.out _ _ HF.out).mono ?_
      rintro e w11 ⟨rfl, h11⟩
      have g11 := b9.trans (h11.mono b9.size)
      have b11 := g11.alloc g11.size (.cells #[.int .i64 wt.1, .int .i64 wt.2] 24)
      have o11 := (own_below o9 h11).alloc (.cells #[.int .i64 wt.1, .int .i64 wt.2] 24)
      have v11 := (v9.kept h11).alloc (.cells #[.int .i64 wt.1, .int .i64 wt.2] 24)
      have s11 := (s9.kept h11).alloc (.cells #[.int .i64 wt.1, .int .i64 wt.2] 24)
      have n11 := EBox.new w11 wt.1 wt.2
      obtain ⟨n0, n1, _, _⟩ := n11.facts
      clear h11 g11 b9 o9 v9 s9 HF n11
      go_wp2_with fail
      refine (c3.out _).mono ?_
      clear n0 n1
      generalize w11.alloc (.cells #[.int .i64 wt.1, .int .i64 wt.2] 24) = w12 at *
      rintro e w13 ⟨rfl, h13⟩
      have g13 := b11.trans (h13.mono b11.size)
      have b13 := g13.alloc g13.size (.cells #[.int .i64 iv'.1, .int .i64 iv'.2] 24)
      have o13 := (own_below o11 h13).alloc (.cells #[.int .i64 iv'.1, .int .i64 iv'.2] 24)
      have v13 := (v11.kept h13).alloc (.cells #[.int .i64 iv'.1, .int .i64 iv'.2] 24)
      have s13 := (s11.kept h13).alloc (.cells #[.int .i64 iv'.1, .int .i64 iv'.2] 24)
      have n13 := EBox.new w13 iv'.1 iv'.2
      have hgB := (own_below o11 h13).lt g rfl
      obtain ⟨B3, hB3⟩ : ∃ B, w13.heap.size = B := ⟨_, rfl⟩
      rw [hB3] at n13 hgB
      have hg13 := hgB.2
      clear h13 g13 b11 o11 v11 s11 hgB
      go_wp2_with fail
      clear hB3
      generalize w13.alloc (.cells #[.int .i64 iv'.1, .int .i64 iv'.2] 24) = w14 at *
      obtain ⟨a0, a1, _, _⟩ := v13.facts
      obtain ⟨a2, a3, _, _⟩ := s13.facts
      obtain ⟨a4, a5, _, _⟩ := n13.facts
      have HOWN := Lib.hid o13
      have hS0 : (fun w' : World => w'.cell? ⟨w.heap.size, 0, none⟩ = some (.int .i64 v.1) ∧ w'.cell? ⟨w.heap.size, 1, none⟩ = some (.int .i64 v.2) ∧ w'.cell? ⟨B1, 0, none⟩ = some (.int .i64 sum.1) ∧ w'.cell? ⟨B1, 1, none⟩ = some (.int .i64 sum.2) ∧ w'.cell? ⟨B3, 0, none⟩ = some (.int .i64 iv'.1) ∧ w'.cell? ⟨B3, 1, none⟩ = some (.int .i64 iv'.2) ∧ Below wS.heap.size wS w') w14 := ⟨a0, a1, a2, a3, a4, a5, b13⟩
      have hkp := Lib.hid (show ∀ A1 A2 : World, (fun w' : World => w'.cell? ⟨w.heap.size, 0, none⟩ = some (.int .i64 v.1) ∧ w'.cell? ⟨w.heap.size, 1, none⟩ = some (.int .i64 v.2) ∧ w'.cell? ⟨B1, 0, none⟩ = some (.int .i64 sum.1) ∧ w'.cell? ⟨B1, 1, none⟩ = some (.int .i64 sum.2) ∧ w'.cell? ⟨B3, 0, none⟩ = some (.int .i64 iv'.1) ∧ w'.cell? ⟨B3, 1, none⟩ = some (.int .i64 iv'.2) ∧ Below wS.heap.size wS w') A1 → Below A1.heap.size A1 A2 → (fun w' : World => w'.cell? ⟨w.heap.size, 0, none⟩ = some (.int .i64 v.1) ∧ w'.cell? ⟨w.heap.size, 1, none⟩ = some (.int .i64 v.2) ∧ w'.cell? ⟨B1, 0, none⟩ = some (.int .i64 sum.1) ∧ w'.cell? ⟨B1, 1, none⟩ = some (.int .i64 sum.2) ∧ w'.cell? ⟨B3, 0, none⟩ = some (.int .i64 iv'.1) ∧ w'.cell? ⟨B3, 1, none⟩ = some (.int .i64 iv'.2) ∧ Below wS.heap.size wS w') A2 from fun A1 A2 ⟨k0, k1, k2, k3, k4, k5, kb⟩ h => ⟨below_cell h k0, below_cell h k1, below_cell h k2, below_cell h k3, below_cell h k4, below_cell h k5, kb.trans (h.mono kb.size)⟩)
      have hU0 := Lib.hid (show ∀ A1 A2 : World, A1.ownsRow wS.heap.size 27 3 (.slice (some ⟨g, 0, none⟩) (N + 1) cg) (N + 1) (shrs (L ++ [(x, 0, 0)])) → Below A1.heap.size A1 A2 → A2.ownsRow wS.heap.size 27 3 (.slice (some ⟨g, 0, none⟩) (N + 1) cg) (N + 1) (shrs (L ++ [(x, 0, 0)])) from fun _ _ h hw => own_below h hw)
      have tN : (N : Int) < (N : Int) + 1 := by omega
      have tNn : N < N + 1 := by omega
      have tw : IntKind.i64.wrap (N : Int) = (N : Int) := IntWalk.i64_in _ ⟨by omega, by omega⟩
      clear o13 v13 s13 n13 b13
      refine wp_region_held_drew (S := (fun w' : World => w'.cell? ⟨w.heap.size, 0, none⟩ = some (.int .i64 v.1) ∧ w'.cell? ⟨w.heap.size, 1, none⟩ = some (.int .i64 v.2) ∧ w'.cell? ⟨B1, 0, none⟩ = some (.int .i64 sum.1) ∧ w'.cell? ⟨B1, 1, none⟩ = some (.int .i64 sum.2) ∧ w'.cell? ⟨B3, 0, none⟩ = some (.int .i64 iv'.1) ∧ w'.cell? ⟨B3, 1, none⟩ = some (.int .i64 iv'.2) ∧ Below wS.heap.size wS w')) (by kernel_rfl) ?_ (fun hHeld => ?_)
      · exact hkp.out _ _ hS0 (Below.drew (Below.refl _ _))
      refine takeW (i := 0) (v := ?_) rfl (by kernel_rfl) (by kernel_rfl) (by kernel_rfl) (fun _ _ _ h => h) (by rfl) ?_ (by assumption) ?_
      rotate_left
      focus (intro w hSw; (try dsimp only at hSw); go_simp; try (with_reducible rfl))
      simp only [Act.put, List.setIfInBounds_toArray, List.set_cons_zero, List.set_cons_succ]
      refine takeW (i := 1) (v := ?_) rfl (by kernel_rfl) (by kernel_rfl) (by kernel_rfl) (fun _ _ _ h => h) (by rfl) ?_ (by assumption) ?_
      rotate_left
      focus (intro w hSw; (try dsimp only at hSw); go_simp; try (with_reducible rfl))
      simp only [Act.put, List.setIfInBounds_toArray, List.set_cons_zero, List.set_cons_succ]
      refine takeW (i := 3) (v := ?_) rfl (by kernel_rfl) (by kernel_rfl) (by kernel_rfl) (fun _ _ _ h => h) (by rfl) ?_ (by assumption) ?_
      rotate_left
      focus (intro w hSw; (try dsimp only at hSw); go_simp; try (with_reducible rfl))
      simp only [Act.put, List.setIfInBounds_toArray, List.set_cons_zero, List.set_cons_succ]
      refine takeW (i := 4) (v := ?_) rfl (by kernel_rfl) (by kernel_rfl) (by kernel_rfl) (fun _ _ _ h => h) (by rfl) ?_ (by assumption) ?_
      rotate_left
      focus (intro w hSw; (try dsimp only at hSw); go_simp; try (with_reducible rfl))
      simp only [Act.put, List.setIfInBounds_toArray, List.set_cons_zero, List.set_cons_succ]
      refine takeW (i := 6) (v := ?_) rfl (by kernel_rfl) (by kernel_rfl) (by kernel_rfl) (fun _ _ _ h => h) (by rfl) ?_ (by assumption) ?_
      rotate_left
      focus (intro w hSw; (try dsimp only at hSw); go_simp; try (with_reducible rfl))
      simp only [Act.put, List.setIfInBounds_toArray, List.set_cons_zero, List.set_cons_succ]
      refine takeW (i := 2) (v := ?_) rfl (by kernel_rfl) (by kernel_rfl) (by kernel_rfl) (fun _ _ _ h => h) (by rfl) ?_ (by assumption) ?_
      rotate_left
      focus (intro w hSw; (try dsimp only at hSw); go_simp; try (with_reducible rfl))
      simp only [Act.put, List.setIfInBounds_toArray, List.set_cons_zero, List.set_cons_succ]
      refine readyOne (i := 5) (by kernel_rfl) rfl (fun K hK => ?_)
      go_simp
      refine (keepP (fun w' : World => w'.cell? ⟨w.heap.size, 0, none⟩ = some (.int .i64 v.1) ∧ w'.cell? ⟨w.heap.size, 1, none⟩ = some (.int .i64 v.2) ∧ w'.cell? ⟨B1, 0, none⟩ = some (.int .i64 sum.1) ∧ w'.cell? ⟨B1, 1, none⟩ = some (.int .i64 sum.2) ∧ w'.cell? ⟨B3, 0, none⟩ = some (.int .i64 iv'.1) ∧ w'.cell? ⟨B3, 1, none⟩ = some (.int .i64 iv'.2) ∧ Below wS.heap.size wS w') hkp.out hU0.out (by exact HOWN.out) (rsub_eq H1.out _) (by assumption)).mono ?_
      rintro e wA ⟨rfl, kS, hUA⟩
      refine hK.out _ _ kS (fun hHeld => ?_)
      clear hK K
      refine readyOne (i := 7) (by kernel_rfl) rfl (fun K hK => ?_)
      go_simp
      refine (keepP (fun w' : World => w'.cell? ⟨w.heap.size, 0, none⟩ = some (.int .i64 v.1) ∧ w'.cell? ⟨w.heap.size, 1, none⟩ = some (.int .i64 v.2) ∧ w'.cell? ⟨B1, 0, none⟩ = some (.int .i64 sum.1) ∧ w'.cell? ⟨B1, 1, none⟩ = some (.int .i64 sum.2) ∧ w'.cell? ⟨B3, 0, none⟩ = some (.int .i64 iv'.1) ∧ w'.cell? ⟨B3, 1, none⟩ = some (.int .i64 iv'.2) ∧ Below wS.heap.size wS w') hkp.out hU0.out hUA (rmul_eq H2.out _) (by assumption)).mono ?_
      rintro e wB ⟨rfl, kS, hUB⟩
      obtain ⟨⟨s0, s1, s2⟩, sf⟩ := own_at hUB N (by rw [HLL.out]; omega) HLL.out
      have sf1 := sf (N * 3 + 1)
      have sf2 := sf (N * 3 + 1 + 1)
      clear sf
      obtain ⟨k0, k1, k2, k3, k4, k5, kb⟩ := id kS
      refine hK.out _ _ kS (fun hHeld => ?_)
      clear hK K
      refine takeW (i := 8) (v := ?_) rfl (by kernel_rfl) (by kernel_rfl) (by kernel_rfl) (fun _ _ _ h => h) (by rfl) ?_ (by assumption) ?_
      rotate_left
      focus (intro w hSw; (try dsimp only at hSw); go_simp; try (with_reducible rfl))
      simp only [Act.put, List.setIfInBounds_toArray, List.set_cons_zero, List.set_cons_succ]
      refine takeW (i := 9) (v := ?_) rfl (by kernel_rfl) (by kernel_rfl) (by kernel_rfl) (fun _ _ _ h => h) (by rfl) ?_ (by assumption) ?_
      rotate_left
      focus (intro w hSw; (try dsimp only at hSw); go_simp; try (with_reducible rfl))
      simp only [Act.put, List.setIfInBounds_toArray, List.set_cons_zero, List.set_cons_succ]
      refine readyOne (i := 10) (by kernel_rfl) rfl (fun K hK => ?_)
      go_simp
      refine hK.out _ _ ?_ (fun hHeld => ?_)
      · exact ⟨(World.cell?_setCell_far _ _ _ _ (by simp; omega)).trans ((World.cell?_setCell_far _ _ _ _ (by simp; omega)).trans k0), (World.cell?_setCell_far _ _ _ _ (by simp; omega)).trans ((World.cell?_setCell_far _ _ _ _ (by simp; omega)).trans k1), (World.cell?_setCell_far _ _ _ _ (by simp; omega)).trans ((World.cell?_setCell_far _ _ _ _ (by simp; omega)).trans k2), (World.cell?_setCell_far _ _ _ _ (by simp; omega)).trans ((World.cell?_setCell_far _ _ _ _ (by simp; omega)).trans k3), (World.cell?_setCell_far _ _ _ _ (by simp; omega)).trans ((World.cell?_setCell_far _ _ _ _ (by simp; omega)).trans k4), (World.cell?_setCell_far _ _ _ _ (by simp; omega)).trans ((World.cell?_setCell_far _ _ _ _ (by simp; omega)).trans k5), (kb.setCell (p := ⟨g, N * 3 + 1, none⟩) HGS.out _).setCell (p := ⟨g, N * 3 + 1 + 1, none⟩) HGS.out _⟩
      clear hK K
      refine wpAnyH_done (by kernel_rfl) ?_ _
      have hput := own_put hUB N (by rw [HLL.out]; omega) q
      rw [set_last L N HL0.out x (0, 0) q] at hput
      have HPUT := Lib.hid (FlatAt.own hput)
      obtain ⟨k0', k1', _, _, _, _, kb'⟩ := hHeld
      clear s0 s1 s2 sf1 sf2 k0 k1 k2 k3 k4 k5 kb hUA hUB hput kS
      go_wp2_with fail
      refine (c4.out _ _ HPUT.out).mono ?_
      rintro e wC ⟨rfl, hC⟩
      have v0 := below_cell ((Below.refl _ _).alloc (Nat.le_refl _) (.cells #[.int .i64 v.1, .int .i64 v.2] 24)) (below_cell hC k0')
      have v1 := below_cell ((Below.refl _ _).alloc (Nat.le_refl _) (.cells #[.int .i64 v.1, .int .i64 v.2] 24)) (below_cell hC k1')
      have gC := kb'.trans (hC.mono kb'.size)
      have bC := gC.alloc gC.size (.cells #[.int .i64 v.1, .int .i64 v.2] 24)
      go_wp2_with fail
      go_ret
      exact ⟨rfl, HTR.out _ bC⟩

theorem shareHides_walk {H : Type} (enc : TypeId × Value → H) (W : World) (base : Nat) (v0 : Value) (v1 : Value) (v2 : Value) (d0 : DataW H) (d1 : DataW H) (d2 : DataW H) (p0 : List MemPlace) (p1 : List MemPlace) (p2 : List MemPlace)
    (h0 : DataW.Trod enc Try.prog W 0 (fun _ => true) true 22 v0 d0 p0) (o0 : Value.okWide Try.prog W .any base 22 v0)
    (h1 : DataW.Trod enc Try.prog W 0 (fun _ => true) true 43 v1 d1 p1) (o1 : Value.okWide Try.prog W .any base 43 v1)
    (h2 : DataW.Trod enc Try.prog W 0 (fun _ => true) true 24 v2 d2 p2) (o2 : Value.okWide Try.prog W .any base 24 v2)
    (hsz : (DataW.weightsEach Try.prog [22, 43, 24] [d0, d1, d2]).all (· ≤ reachBytes) = true) :
    Calls Try.prog 6 #[v0, v1, v2] W fun e W' => e = .returned (.bool true) ∧ Below W.heap.size W W' := by
  simp only [DataW.weightsEach, List.all_append, Bool.and_eq_true] at hsz
  obtain ⟨a0, len, cap, rfl⟩ := okWide_slice Try.underlying22 o0
  obtain ⟨a1, len1, cap1, rfl⟩ := okWide_slice Try.underlying43 o1
  obtain ⟨n0, e0⟩ := h0
  obtain ⟨n1, e1⟩ := h1
  obtain ⟨p, hp, lp⟩ := trod_elems (y := (d0, p0)) e0 hsz.1
  obtain ⟨l, hl, hn, _⟩ := trod_ints (y := (d1, p1)) Try.underlying43 e1
  obtain ⟨a, b, rfl⟩ := open_elem o2 h2
  by_cases h : p.all Ga.ok = false ∨ Ga.ok (a, b) = false ∨ p.length < 2 ∨ 12 < p.length ∨ (Sr.dis l []).length < p.length
  · exact shareHides_no _ _ p l (a, b) W hp hl (by omega) hn h
  · simp only [not_or, Bool.not_eq_false] at h
    obtain ⟨h1, h2, h3, h4, h5⟩ := h
    exact shareHides_yes _ _ p l (a, b) W hp hl hn h1 h2 (by omega) (by omega) (by omega)
end Go.Proofs.Ytngmkokmomficaa
