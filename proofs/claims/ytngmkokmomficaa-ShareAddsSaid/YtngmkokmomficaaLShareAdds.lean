/- ShareAdds: the walk. (Written by gen-lsh2.py.) -/
import Derived.Test.YtngmkokmomficaaKeepR
import Derived.Test.YtngmkokmomficaaShOwn
namespace Go.Proofs.Ytngmkokmomficaa
open Go.RowKit Go.ChangeShapes Go.WideShapes Go.ChangeAt
attribute [local go_sem] build_el build_el0 build_el1 build_el2 guard_el eqE_self
attribute [local go_sem ↓] eq_elE

/-- A call keeps whatever abides growth, and a row of the call's own. -/
theorem keepP {F : Nat} {args : Array Value} {r : Value} {w : World} (S : World → Prop) (hk : ∀ a b, S a → Below a.heap.size a b → S b) {U : World → Prop} (hkU : ∀ a b, U a → Below a.heap.size a b → U b) (hu : U w) (hc : Calls Try.prog F args w fun e w' => e = .returned r ∧ Below w.heap.size w w') (h : S w) :
    Calls Try.prog F args w fun e w' => e = .returned r ∧ S w' ∧ U w' :=
  hc.mono fun _ _ ⟨he, hb⟩ => ⟨he, hk _ _ h hb, hkU _ _ hu hb⟩
theorem sums_step (a b : List Ga.E) (j : Nat) (ha : j < a.length) (hb : j < b.length) : Sr.sums (a.take (j + 1)) (b.take (j + 1)) = Sr.sums (a.take j) (b.take j) ++ [Ga.add a[j] b[j]] := by
  rw [List.take_succ_eq_append_getElem ha, List.take_succ_eq_append_getElem hb]
  unfold Sr.sums
  rw [List.zipWith_append (by rw [List.length_take, List.length_take]; omega)]
  rfl
theorem sums_len (a b : List Ga.E) (h : a.length = b.length) (j : Nat) (hj : j ≤ a.length) : (Sr.sums (a.take j) (b.take j)).length = j := by
  unfold Sr.sums
  rw [List.length_zipWith, List.length_take, List.length_take]
  omega
theorem adds_of (a b : List Ga.E) (i : Int) (h1 : a.all Ga.ok = true) (h2 : b.all Ga.ok = true) (h : a.length = b.length) :
    ∃ s t u c, Sr.ofE a i = (s, c) ∧ Sr.ofE b i = (t, c) ∧ Sr.ofE (Sr.sums a b) i = (u, c) ∧ Ga.add s.2 t.2 = u.2 := by
  unfold Sr.ofE
  rw [h1, h2, Sr.sums_ok]
  cases hm : Sr.mayId i with
  | false => exact ⟨_, _, _, _, rfl, rfl, rfl, by decide⟩
  | true =>
    refine ⟨_, _, _, _, rfl, rfl, rfl, ?_⟩
    rw [Sr.mayId, decide_eq_true_iff] at hm
    exact (Sr.evalE_sums a b (i, 0) (Sr.ok_id hm) h1 h2 h).symm
set_option maxHeartbeats 8000000 in
set_option maxRecDepth 100000 in
theorem shareAdds_no (va vb : Value) (a b : List Ga.E) (i : Int) (w : World) (ha : FlatAt w va 2 (elems a)) (hb : FlatAt w vb 2 (elems b)) (la : a.length ≤ 140737488351232) (lb : b.length ≤ 140737488351232) (h : a.all Ga.ok = false ∨ b.all Ga.ok = false ∨ a.length ≠ b.length) :
    Calls Try.prog 7 #[va, vb, .int .i64 i] w fun e w' => e = .returned (.bool true) ∧ Below w.heap.size w w' := by
  have cA := Lib.hid (fun (W : World) (hw : Below w.heap.size w W) => right_any va a W (ha.below hw) la)
  have cB := Lib.hid (fun (W : World) (hw : Below w.heap.size w W) => right_any vb b W (hb.below hw) lb)
  obtain ⟨aa, ca, rfl⟩ := ha.len (n := a.length) (elems_len a) (by omega)
  obtain ⟨ab, cb, rfl⟩ := hb.len (n := b.length) (elems_len b) (by omega)
  obtain ⟨ra, hra⟩ : ∃ r, a.all Ga.ok = r := ⟨_, rfl⟩
  obtain ⟨rb, hrb⟩ : ∃ r, b.all Ga.ok = r := ⟨_, rfl⟩
  rw [hra] at cA h
  rw [hrb] at cB h
  clear ha hb hra hrb
  have hneq : (ra = false) ∨ (ra = true ∧ rb = false) ∨ (ra = true ∧ rb = true ∧ ((a.length : Int) != (b.length : Int)) = true) := by
    cases ra
    · exact .inl rfl
    · cases rb
      · exact .inr (.inl ⟨rfl, rfl⟩)
      · refine .inr (.inr ⟨rfl, rfl, ?_⟩)
        rcases h with h | h | h
        · cases h
        · cases h
        · rw [bne_iff_ne]; omega
  clear h
  rcases hneq with rfl | ⟨rfl, rfl⟩ | ⟨rfl, rfl, t1⟩
  all_goals
    go_enter Try.func7, Try.ntmps7
    go_wp2_with fail
    refine (shShown_any _).mono ?_
    rintro e w1 ⟨rfl, hb0⟩
    go_wp2_with fail
    refine (cA.out _ hb0).mono ?_
    rintro e w2 ⟨rfl, h2⟩
    have hb2 := hb0.trans (h2.mono hb0.size)
    go_wp2_with fail
    refine (cB.out _ hb2).mono ?_
    rintro e w3 ⟨rfl, h3⟩
    have hb3 := hb2.trans (h3.mono hb2.size)
    clear hb0 h2 hb2 h3
    go_wp2
    go_ret
    exact ⟨rfl, hb3⟩

set_option maxHeartbeats 8000000 in
set_option maxRecDepth 100000 in
theorem shareAdds_yes (va vb : Value) (a b : List Ga.E) (i : Int) (w : World) (ha : FlatAt w va 2 (elems a)) (hb : FlatAt w vb 2 (elems b)) (la : a.length * 16 ≤ 140737488351232) (h1 : a.all Ga.ok = true) (h2 : b.all Ga.ok = true) (hab : a.length = b.length) :
    Calls Try.prog 7 #[va, vb, .int .i64 i] w fun e w' => e = .returned (.bool true) ∧ Below w.heap.size w w' := by
  obtain ⟨i0, hi, hz0, hz1, hz2⟩ := info_parts info_el
  have cA := Lib.hid (fun (W : World) (hw : Below w.heap.size w W) => right_any va a W (ha.below hw) (by omega))
  have cB := Lib.hid (fun (W : World) (hw : Below w.heap.size w W) => right_any vb b W (hb.below hw) (by omega))
  rw [h1] at cA
  rw [h2] at cB
  have oA := Lib.hid (fun (W : World) (hw : Below w.heap.size w W) => pof_sh va a i W (ha.below hw) (by omega))
  have oB := Lib.hid (fun (W : World) (hw : Below w.heap.size w W) => pof_sh vb b i W (hb.below hw) (by omega))
  have hsl := sums_len a b hab
  have oS := Lib.hid (fun (u : Value) (W : World) (h : FlatAt W u 2 (elems (Sr.sums a b))) => pof_sh u _ i W h (by have := hsl a.length (Nat.le_refl _); rw [List.take_length, hab, List.take_length] at this; omega))
  have hrA := Lib.hid (fun (w' : World) (hb : Below w.heap.size w w') (h0 : 0 < a.length) => elems_row ha hb h0)
  have hrB := Lib.hid (fun (w' : World) (hw : Below w.heap.size w w') (h0 : 0 < b.length) => elems_row hb hw h0)
  have HSL := Lib.hid hsl
  have HSS := Lib.hid (sums_step a b)
  have HEND := Lib.hid (show Sr.sums (a.take a.length) (b.take a.length) = Sr.sums a b by rw [List.take_length, hab, List.take_length])
  obtain ⟨s, t, u, c, e1, e2, e3, hst⟩ := adds_of a b i h1 h2 hab
  rw [e1] at oA
  rw [e2] at oB
  rw [e3] at oS
  have HST := Lib.hid hst
  obtain ⟨aa, ca, rfl⟩ := ha.len (n := a.length) (elems_len a) (by omega)
  obtain ⟨ab, cb, rfl⟩ := hb.len (n := a.length) (by rw [elems_len, hab]) (by omega)
  have HAB := Lib.hid hab
  clear ha hb h1 h2 e1 e2 e3 hst hsl hab
  go_enter Try.func7, Try.ntmps7
  go_wp2_with fail
  refine (shShown_any _).mono ?_
  rintro e w1 ⟨rfl, hb0⟩
  go_wp2_with fail
  refine (cA.out _ hb0).mono ?_
  rintro e w2 ⟨rfl, h2⟩
  have hb2 := hb0.trans (h2.mono hb0.size)
  go_wp2_with fail
  refine (cB.out _ hb2).mono ?_
  rintro e w3 ⟨rfl, h3⟩
  have hb3 := hb2.trans (h3.mono hb2.size)
  clear hb0 h2 hb2 h3
  go_wp2_with fail
  go_loopw [10, 11] (fun q k wr => ∃ j : Nat, k = .int .i64 j ∧ j ≤ a.length ∧ wr.ownsRow w.heap.size 24 2 q (Sr.sums (a.take j) (b.take j)).length (elems (Sr.sums (a.take j) (b.take j))) ∧ Below w.heap.size w wr) (fun _ k _ => a.length - (intOf k).toNat)
  case atStart => exact ⟨0, rfl, by omega, World.ownsRow_nil _ _ _ _, hb3⟩
  case round =>
    clear hb3
    obtain ⟨j, rfl, hj, hown, hb⟩ := hrel
    by_cases hlt : j < a.length
    · obtain ⟨ba, oa, cap, hv, hbla, hca⟩ := hrA.out w (Below.refl _ _) (by omega)
      injection hv with e1 _ e2
      subst e1 e2
      have hjb : j < b.length := by rw [← HAB.out]; exact hlt
      obtain ⟨bb, ob, cap, hv, hblb, hcb⟩ := hrB.out w (Below.refl _ _) (by omega)
      rw [← HAB.out] at hv
      injection hv with e1 _ e2
      subst e1 e2
      obtain ⟨a0w, a1w⟩ := hca j hlt
      obtain ⟨b0w, b1w⟩ := hcb j hjb
      have hst := HSS.out j hlt hjb
      have hsl := HSL.out j hj
      obtain ⟨x, hx⟩ : ∃ x, a[j] = x := ⟨_, rfl⟩
      obtain ⟨y, hy⟩ : ∃ y, b[j] = y := ⟨_, rfl⟩
      rw [hx] at a0w a1w hst
      rw [hy] at b0w b1w hst
      obtain ⟨s, hs⟩ : ∃ z, Ga.add x y = z := ⟨_, rfl⟩
      rw [hs] at hst
      have HAB2 := Lib.hid (fun (W : World) (hw : Below w.heap.size w W) => (⟨below_cell hw a0w, below_cell hw a1w, below_cell hw b0w, below_cell hw b1w⟩ : W.cell? ⟨ba, oa + j * 2, none⟩ = some (.int .i64 x.1) ∧ W.cell? ⟨ba, oa + j * 2 + 1, none⟩ = some (.int .i64 x.2) ∧ W.cell? ⟨bb, ob + j * 2, none⟩ = some (.int .i64 y.1) ∧ W.cell? ⟨bb, ob + j * 2 + 1, none⟩ = some (.int .i64 y.2)))
      obtain ⟨a0, a1, b0, b1⟩ := HAB2.out _ hb
      have HSTEP := Lib.hid hst
      have H1 := Lib.hid hs
      have tj : (j : Int) < (a.length : Int) := by omega
      have hS0 : (fun w' : World => w'.cell? ⟨ba, oa + j * 2, none⟩ = some (.int .i64 x.1) ∧ w'.cell? ⟨ba, oa + j * 2 + 1, none⟩ = some (.int .i64 x.2) ∧ w'.cell? ⟨bb, ob + j * 2, none⟩ = some (.int .i64 y.1) ∧ w'.cell? ⟨bb, ob + j * 2 + 1, none⟩ = some (.int .i64 y.2) ∧ Below w.heap.size w w') _ := ⟨a0, a1, b0, b1, hb⟩
      have hkp := Lib.hid (show ∀ A1 A2 : World, (fun w' : World => w'.cell? ⟨ba, oa + j * 2, none⟩ = some (.int .i64 x.1) ∧ w'.cell? ⟨ba, oa + j * 2 + 1, none⟩ = some (.int .i64 x.2) ∧ w'.cell? ⟨bb, ob + j * 2, none⟩ = some (.int .i64 y.1) ∧ w'.cell? ⟨bb, ob + j * 2 + 1, none⟩ = some (.int .i64 y.2) ∧ Below w.heap.size w w') A1 → Below A1.heap.size A1 A2 → (fun w' : World => w'.cell? ⟨ba, oa + j * 2, none⟩ = some (.int .i64 x.1) ∧ w'.cell? ⟨ba, oa + j * 2 + 1, none⟩ = some (.int .i64 x.2) ∧ w'.cell? ⟨bb, ob + j * 2, none⟩ = some (.int .i64 y.1) ∧ w'.cell? ⟨bb, ob + j * 2 + 1, none⟩ = some (.int .i64 y.2) ∧ Below w.heap.size w w') A2 from fun A1 A2 ⟨k0, k1, k2, k3, kb⟩ h => ⟨below_cell h k0, below_cell h k1, below_cell h k2, below_cell h k3, kb.trans (h.mono kb.size)⟩)
      have hU0 := Lib.hid (show ∀ A1 A2 : World, A1.ownsRow w.heap.size 24 2 u10 (Sr.sums (a.take j) (b.take j)).length (elems (Sr.sums (a.take j) (b.take j))) → Below A1.heap.size A1 A2 → A2.ownsRow w.heap.size 24 2 u10 (Sr.sums (a.take j) (b.take j)).length (elems (Sr.sums (a.take j) (b.take j))) from fun _ _ h hw => own_below h hw)
      have HOWN := Lib.hid hown
      clear hca hcb hx hy hs hst hown hb a0w a1w b0w b1w
      go_wp2_with fail
      refine wp_region_held_drew (S := (fun w' : World => w'.cell? ⟨ba, oa + j * 2, none⟩ = some (.int .i64 x.1) ∧ w'.cell? ⟨ba, oa + j * 2 + 1, none⟩ = some (.int .i64 x.2) ∧ w'.cell? ⟨bb, ob + j * 2, none⟩ = some (.int .i64 y.1) ∧ w'.cell? ⟨bb, ob + j * 2 + 1, none⟩ = some (.int .i64 y.2) ∧ Below w.heap.size w w')) (by kernel_rfl) ?_ (fun hHeld => ?_)
      · exact hkp.out _ _ hS0 (Below.drew (Below.refl _ _))
      refine takeW (i := 0) (v := ?_) rfl (by kernel_rfl) (by kernel_rfl) (by kernel_rfl) (fun _ _ _ h => h) (by rfl) ?_ (by assumption) ?_
      rotate_left
      focus (intro w hSw; (try dsimp only at hSw); go_simp; try (with_reducible rfl))
      simp only [Act.put, List.setIfInBounds_toArray, List.set_cons_zero, List.set_cons_succ]
      refine takeW (i := 1) (v := ?_) rfl (by kernel_rfl) (by kernel_rfl) (by kernel_rfl) (fun _ _ _ h => h) (by rfl) ?_ (by assumption) ?_
      rotate_left
      focus (intro w hSw; (try dsimp only at hSw); go_simp; try (with_reducible rfl))
      simp only [Act.put, List.setIfInBounds_toArray, List.set_cons_zero, List.set_cons_succ]
      refine takeW (i := 2) (v := ?_) rfl (by kernel_rfl) (by kernel_rfl) (by kernel_rfl) (fun _ _ _ h => h) (by rfl) ?_ (by assumption) ?_
      rotate_left
      focus (intro w hSw; (try dsimp only at hSw); go_simp; try (with_reducible rfl))
      simp only [Act.put, List.setIfInBounds_toArray, List.set_cons_zero, List.set_cons_succ]
      refine takeW (i := 5) (v := ?_) rfl (by kernel_rfl) (by kernel_rfl) (by kernel_rfl) (fun _ _ _ h => h) (by rfl) ?_ (by assumption) ?_
      rotate_left
      focus (intro w hSw; (try dsimp only at hSw); go_simp; try (with_reducible rfl))
      simp only [Act.put, List.setIfInBounds_toArray, List.set_cons_zero, List.set_cons_succ]
      refine takeW (i := 6) (v := ?_) rfl (by kernel_rfl) (by kernel_rfl) (by kernel_rfl) (fun _ _ _ h => h) (by rfl) ?_ (by assumption) ?_
      rotate_left
      focus (intro w hSw; (try dsimp only at hSw); go_simp; try (with_reducible rfl))
      simp only [Act.put, List.setIfInBounds_toArray, List.set_cons_zero, List.set_cons_succ]
      refine takeW (i := 3) (v := ?_) rfl (by kernel_rfl) (by kernel_rfl) (by kernel_rfl) (fun _ _ _ h => h) (by rfl) ?_ (by assumption) ?_
      rotate_left
      focus (intro w hSw; (try dsimp only at hSw); go_simp; try (with_reducible rfl))
      simp only [Act.put, List.setIfInBounds_toArray, List.set_cons_zero, List.set_cons_succ]
      refine takeW (i := 7) (v := ?_) rfl (by kernel_rfl) (by kernel_rfl) (by kernel_rfl) (fun _ _ _ h => h) (by rfl) ?_ (by assumption) ?_
      rotate_left
      focus (intro w hSw; (try dsimp only at hSw); go_simp; try (with_reducible rfl))
      simp only [Act.put, List.setIfInBounds_toArray, List.set_cons_zero, List.set_cons_succ]
      refine takeW (i := 4) (v := ?_) rfl (by kernel_rfl) (by kernel_rfl) (by kernel_rfl) (fun _ _ _ h => h) (by rfl) ?_ (by assumption) ?_
      rotate_left
      focus (intro w hSw; (try dsimp only at hSw); go_simp; try (with_reducible rfl))
      simp only [Act.put, List.setIfInBounds_toArray, List.set_cons_zero, List.set_cons_succ]
      refine takeW (i := 8) (v := ?_) rfl (by kernel_rfl) (by kernel_rfl) (by kernel_rfl) (fun _ _ _ h => h) (by rfl) ?_ (by assumption) ?_
      rotate_left
      focus (intro w hSw; (try dsimp only at hSw); go_simp; try (with_reducible rfl))
      simp only [Act.put, List.setIfInBounds_toArray, List.set_cons_zero, List.set_cons_succ]
      refine readyOne (i := 9) (by kernel_rfl) rfl (fun K hK => ?_)
      go_simp
      refine (keepP (fun w' : World => w'.cell? ⟨ba, oa + j * 2, none⟩ = some (.int .i64 x.1) ∧ w'.cell? ⟨ba, oa + j * 2 + 1, none⟩ = some (.int .i64 x.2) ∧ w'.cell? ⟨bb, ob + j * 2, none⟩ = some (.int .i64 y.1) ∧ w'.cell? ⟨bb, ob + j * 2 + 1, none⟩ = some (.int .i64 y.2) ∧ Below w.heap.size w w') hkp.out hU0.out (by exact HOWN.out) (radd_eq H1.out _) (by assumption)).mono ?_
      rintro e w4 ⟨rfl, kS, hU4⟩
      refine hK.out _ _ kS (fun hHeld => ?_)
      clear hK K
      refine readyOne (i := 10) (by kernel_rfl) rfl (fun K hK => ?_)
      go_simp
      refine hK.out _ _ ?_ (fun hHeld => ?_)
      · exact hkp.out _ _ kS ((Below.refl _ _).alloc (Nat.le_refl _) _)
      clear hK K
      refine readyOne (i := 11) (by kernel_rfl) rfl (fun K hK => ?_)
      rw [if_pos (by rfl)]
      refine wp_append_own _ (.tmp 47) (.tmp 57) 22 rfl w.heap.size 24 i0 (.agg #[.int .i64 0, .int .i64 0]) 2 16 Try.underlying22 hi hz0 hz1 hz2 rfl (by decide) _ _ _ rfl (hU4.alloc _) ⟨w4.heap.size, 0, none⟩ 1 1 [.int .i64 s.1, .int .i64 s.2] rfl rfl (new_cells w4 _ _) (by intro u hu; simp at hu; rcases hu with rfl | rfl <;> rfl) (by unfold maxLen; omega) (by omega) (by have := kS.2.2.2.2.size; simp; omega) ?_
      intro v5 w5 hown5 hg5 _
      have hb5 := (kS.2.2.2.2.alloc kS.2.2.2.2.size (.cells #[.int .i64 s.1, .int .i64 s.2] 24)).grown hg5 (by have := kS.2.2.2.2.size; simp; omega) (fun k hk => (hU4.lt k hk).1)
      refine hK.out _ _ ?_ (fun hHeld => ?_)
      · exact ⟨(HAB2.out _ hb5).1, (HAB2.out _ hb5).2.1, (HAB2.out _ hb5).2.2.1, (HAB2.out _ hb5).2.2.2, hb5⟩
      clear hK K
      refine takeW (i := 12) (v := ?_) rfl (by kernel_rfl) (by kernel_rfl) (by kernel_rfl) (fun _ _ _ h => h) (by rfl) ?_ (by assumption) ?_
      rotate_left
      focus (intro w hSw; (try dsimp only at hSw); go_simp; try (with_reducible rfl))
      simp only [Act.put, List.setIfInBounds_toArray, List.set_cons_zero, List.set_cons_succ]
      refine wpAnyH_done (by kernel_rfl) ?_ _
      go_wp2
      go_roundw
      case rel =>
        refine ⟨j + 1, by go_num, by omega, ?_, hb5⟩
        rw [HSTEP.out, elems_snoc, List.length_append]
        exact hown5
      case measure => simp [intOf]; omega
    · obtain rfl : j = a.length := by omega
      rw [HEND.out] at hown
      have HW := Lib.hid (FlatAt.own hown)
      clear hown
      go_wp2_with fail
      refine (oA.out _ hb).mono ?_
      rintro e w4 ⟨rfl, h4⟩
      have g4 := hb.trans (h4.mono hb.size)
      have b4 := g4.alloc g4.size (.cells #[.int .i64 s.1, .int .i64 s.2.1, .int .i64 s.2.2] 27)
      have k4 := KBox.new w4 27 (.int .i64 s.1) (.int .i64 s.2.1) (.int .i64 s.2.2)
      have HW4 := Lib.hid ((HW.out.below h4).below ((Below.refl _ _).alloc (Nat.le_refl _) (.cells #[.int .i64 s.1, .int .i64 s.2.1, .int .i64 s.2.2] 27)))
      obtain ⟨B4, hB4⟩ : ∃ B, w4.heap.size = B := ⟨_, rfl⟩
      rw [hB4] at k4
      clear hb h4 g4 HW
      go_wp2_with fail
      clear hB4
      refine (oB.out _ b4).mono ?_
      generalize w4.alloc (.cells #[.int .i64 s.1, .int .i64 s.2.1, .int .i64 s.2.2] 27) = w5 at *
      rintro e w6 ⟨rfl, h6⟩
      have g6 := b4.trans (h6.mono b4.size)
      have b6 := g6.alloc g6.size (.cells #[.int .i64 t.1, .int .i64 t.2.1, .int .i64 t.2.2] 27)
      have k6 := (k4.kept h6).alloc (.cells #[.int .i64 t.1, .int .i64 t.2.1, .int .i64 t.2.2] 27)
      have m6 := KBox.new w6 27 (.int .i64 t.1) (.int .i64 t.2.1) (.int .i64 t.2.2)
      have HW6 := Lib.hid ((HW4.out.below h6).below ((Below.refl _ _).alloc (Nat.le_refl _) (.cells #[.int .i64 t.1, .int .i64 t.2.1, .int .i64 t.2.2] 27)))
      obtain ⟨B6, hB6⟩ : ∃ B, w6.heap.size = B := ⟨_, rfl⟩
      rw [hB6] at m6
      clear b4 h6 g6 k4 HW4
      go_wp2_with fail
      clear hB6
      refine (oS.out _ _ HW6.out).mono ?_
      generalize w6.alloc (.cells #[.int .i64 t.1, .int .i64 t.2.1, .int .i64 t.2.2] 27) = w7 at *
      rintro e w8 ⟨rfl, h8⟩
      have g8 := b6.trans (h8.mono b6.size)
      have b8 := g8.alloc g8.size (.cells #[.int .i64 u.1, .int .i64 u.2.1, .int .i64 u.2.2] 27)
      have k8 := (k6.kept h8).alloc (.cells #[.int .i64 u.1, .int .i64 u.2.1, .int .i64 u.2.2] 27)
      have m8 := (m6.kept h8).alloc (.cells #[.int .i64 u.1, .int .i64 u.2.1, .int .i64 u.2.2] 27)
      have n8 := KBox.new w8 27 (.int .i64 u.1) (.int .i64 u.2.1) (.int .i64 u.2.2)
      obtain ⟨B8, hB8⟩ : ∃ B, w8.heap.size = B := ⟨_, rfl⟩
      rw [hB8] at n8
      clear b6 h8 g8 k6 m6 HW6
      go_wp2_with fail
      clear hB8
      generalize w8.alloc (.cells #[.int .i64 u.1, .int .i64 u.2.1, .int .i64 u.2.2] 27) = w9 at *
      obtain ⟨_, s1, s2⟩ := k8.cells
      obtain ⟨_, t1, t2⟩ := m8.cells
      obtain ⟨_, u1, u2⟩ := n8.cells
      have hS9 : (fun w' : World => w'.cell? ⟨B4, 1, none⟩ = some (.int .i64 s.2.1) ∧ w'.cell? ⟨B4, 2, none⟩ = some (.int .i64 s.2.2) ∧ w'.cell? ⟨B6, 1, none⟩ = some (.int .i64 t.2.1) ∧ w'.cell? ⟨B6, 2, none⟩ = some (.int .i64 t.2.2) ∧ w'.cell? ⟨B8, 1, none⟩ = some (.int .i64 u.2.1) ∧ w'.cell? ⟨B8, 2, none⟩ = some (.int .i64 u.2.2) ∧ Below w.heap.size w w') w9 := ⟨s1, s2, t1, t2, u1, u2, b8⟩
      have hk := Lib.hid (show ∀ A1 A2 : World, (fun w' : World => w'.cell? ⟨B4, 1, none⟩ = some (.int .i64 s.2.1) ∧ w'.cell? ⟨B4, 2, none⟩ = some (.int .i64 s.2.2) ∧ w'.cell? ⟨B6, 1, none⟩ = some (.int .i64 t.2.1) ∧ w'.cell? ⟨B6, 2, none⟩ = some (.int .i64 t.2.2) ∧ w'.cell? ⟨B8, 1, none⟩ = some (.int .i64 u.2.1) ∧ w'.cell? ⟨B8, 2, none⟩ = some (.int .i64 u.2.2) ∧ Below w.heap.size w w') A1 → Below A1.heap.size A1 A2 → (fun w' : World => w'.cell? ⟨B4, 1, none⟩ = some (.int .i64 s.2.1) ∧ w'.cell? ⟨B4, 2, none⟩ = some (.int .i64 s.2.2) ∧ w'.cell? ⟨B6, 1, none⟩ = some (.int .i64 t.2.1) ∧ w'.cell? ⟨B6, 2, none⟩ = some (.int .i64 t.2.2) ∧ w'.cell? ⟨B8, 1, none⟩ = some (.int .i64 u.2.1) ∧ w'.cell? ⟨B8, 2, none⟩ = some (.int .i64 u.2.2) ∧ Below w.heap.size w w') A2 from fun A1 A2 ⟨k0, k1, k2, k3, k4, k5, kb⟩ h => ⟨below_cell h k0, below_cell h k1, below_cell h k2, below_cell h k3, below_cell h k4, below_cell h k5, kb.trans (h.mono kb.size)⟩)
      have hBl := Lib.hid (fun (W : World) (h : (fun w' : World => w'.cell? ⟨B4, 1, none⟩ = some (.int .i64 s.2.1) ∧ w'.cell? ⟨B4, 2, none⟩ = some (.int .i64 s.2.2) ∧ w'.cell? ⟨B6, 1, none⟩ = some (.int .i64 t.2.1) ∧ w'.cell? ⟨B6, 2, none⟩ = some (.int .i64 t.2.2) ∧ w'.cell? ⟨B8, 1, none⟩ = some (.int .i64 u.2.1) ∧ w'.cell? ⟨B8, 2, none⟩ = some (.int .i64 u.2.2) ∧ Below w.heap.size w w') W) => h.2.2.2.2.2.2)
      clear k8 m8 n8
      go_region_held3 (fun w' : World => w'.cell? ⟨B4, 1, none⟩ = some (.int .i64 s.2.1) ∧ w'.cell? ⟨B4, 2, none⟩ = some (.int .i64 s.2.2) ∧ w'.cell? ⟨B6, 1, none⟩ = some (.int .i64 t.2.1) ∧ w'.cell? ⟨B6, 2, none⟩ = some (.int .i64 t.2.2) ∧ w'.cell? ⟨B8, 1, none⟩ = some (.int .i64 u.2.1) ∧ w'.cell? ⟨B8, 2, none⟩ = some (.int .i64 u.2.2) ∧ Below w.heap.size w w')
        (first | assumption | exact ⟨by assumption, by assumption, by assumption, by assumption, by assumption, by assumption, by first | assumption | exact Below.drew (by assumption)⟩)
        (first
          | (go_at_call 26; refine (keepS (fun w' : World => w'.cell? ⟨B4, 1, none⟩ = some (.int .i64 s.2.1) ∧ w'.cell? ⟨B4, 2, none⟩ = some (.int .i64 s.2.2) ∧ w'.cell? ⟨B6, 1, none⟩ = some (.int .i64 t.2.1) ∧ w'.cell? ⟨B6, 2, none⟩ = some (.int .i64 t.2.2) ∧ w'.cell? ⟨B8, 1, none⟩ = some (.int .i64 u.2.1) ∧ w'.cell? ⟨B8, 2, none⟩ = some (.int .i64 u.2.2) ∧ Below w.heap.size w w') hk.out (radd_eq HST.out _) (by assumption)).mono ?_; rintro e w' ⟨rfl, kS⟩))
      all_goals (go_wp2_with fail; go_ret; exact ⟨rfl, hBl.out _ (by assumption)⟩)

theorem shareAdds_walk {H : Type} (enc : TypeId × Value → H) (W : World) (base : Nat) (v0 : Value) (v1 : Value) (v2 : Value) (d0 : DataW H) (d1 : DataW H) (d2 : DataW H) (p0 : List MemPlace) (p1 : List MemPlace) (p2 : List MemPlace)
    (h0 : DataW.Trod enc Try.prog W 0 (fun _ => true) true 22 v0 d0 p0) (o0 : Value.okWide Try.prog W .any base 22 v0)
    (h1 : DataW.Trod enc Try.prog W 0 (fun _ => true) true 22 v1 d1 p1) (o1 : Value.okWide Try.prog W .any base 22 v1)
    (h2 : DataW.Trod enc Try.prog W 0 (fun _ => true) true 3 v2 d2 p2) (o2 : Value.okWide Try.prog W .any base 3 v2)
    (hsz : (DataW.weightsEach Try.prog [22, 22, 3] [d0, d1, d2]).all (· ≤ reachBytes) = true) :
    Calls Try.prog 7 #[v0, v1, v2] W fun e W' => e = .returned (.bool true) ∧ Below W.heap.size W W' := by
  simp only [DataW.weightsEach, List.all_append, Bool.and_eq_true] at hsz
  obtain ⟨a0, len, cap, rfl⟩ := okWide_slice Try.underlying22 o0
  obtain ⟨a1, len1, cap1, rfl⟩ := okWide_slice Try.underlying22 o1
  obtain ⟨n0, e0⟩ := h0
  obtain ⟨n1, e1⟩ := h1
  obtain ⟨a, ha, la⟩ := trod_elems (y := (d0, p0)) e0 hsz.1
  obtain ⟨b, hb, lb⟩ := trod_elems (y := (d1, p1)) e1 hsz.2.1
  obtain ⟨i, _, _, rfl, _⟩ := open_i64 Try.underlying3 o2 h2
  by_cases h : a.all Ga.ok = false ∨ b.all Ga.ok = false ∨ a.length ≠ b.length
  · exact shareAdds_no _ _ a b i W ha hb (by omega) (by omega) h
  · simp only [not_or, Bool.not_eq_false, ne_eq, Decidable.not_not] at h
    exact shareAdds_yes _ _ a b i W ha hb la h.1 h.2.1 h.2.2
end Go.Proofs.Ytngmkokmomficaa
