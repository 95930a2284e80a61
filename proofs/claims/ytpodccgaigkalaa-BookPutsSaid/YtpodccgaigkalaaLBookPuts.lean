/- BookPuts: the walk. (Written by gen-lbputs.py.) -/
import Derived.Test.YtpodccgaigkalaaBkIface
import Derived.Test.YtpodccgaigkalaaBookRight
import Derived.Test.YtpodccgaigkalaaBookPutB
import Derived.Test.YtpodccgaigkalaaOpenTexts
import Derived.Test.YtpodccgaigkalaaKeepR
namespace Go.Proofs.Ytpodccgaigkalaa
open Go.RowKit Go.ChangeShapes Go.WideShapes Go.ChangeAt

/-- The document's Put, as a function of the book. -/
theorem rbput_any (v : Value) (l : List Bk.Sl) (s : Bk.Sl) (w : World) (hv : BookAt w v l) (hl : l.length ≤ 5864062014804) (ht : s.2.length ≤ 140737488351232) (hlt : ∀ s ∈ l, s.2.length ≤ 140737488351232) :
    Calls Try.prog 13 #[v, sv s] w fun e w' => ∃ u, e = .returned u ∧ FlatAt w' u 2 (seals (Bk.put l s)) ∧ Below w.heap.size w w' := by
  have old : Bk.put l s = l → (Bk.has l s = true ∨ (Bk.has l s = false ∧ Bk.inR s = false)) → Calls Try.prog 13 #[v, sv s] w fun e w' => ∃ u, e = .returned u ∧ FlatAt w' u 2 (seals (Bk.put l s)) ∧ Below w.heap.size w w' := by
    intro he h
    rw [he]
    exact (rput_same v l s w hv (by omega) h).mono fun e w' ⟨h1, h2⟩ => ⟨v, h1, (hv.below h2).flat, h2⟩
  cases h : Bk.has l s with
  | true => exact old (bput_same l s (.inr h)) (.inl h)
  | false =>
    cases hi : Bk.inR s with
    | false => exact old (bput_same l s (.inl hi)) (.inr ⟨h, hi⟩)
    | true =>
      rw [bput_new l s hi h]
      obtain ⟨x, t⟩ := s
      rcases hv with ⟨a, rfl, rfl⟩ | ⟨b, off, cap, rfl, h1, h2, hc⟩
      · cases a with
        | none => exact rbput_nil x t w hi h
        | some ad => exact rbput_ad ad x t w hi h
      · exact rbput_some b off cap l x t w h1 h2 hc hl ht hlt hi h

set_option maxHeartbeats 4000000 in
set_option maxRecDepth 100000 in
theorem bookPuts_core (v : Value) (l : List Bk.Sl) (s : Bk.Sl) (W : World) (hv : BookAt W v l) (hl : l.length ≤ 5864062014634) (ht : s.2.length ≤ 140737488351232) (hlt : ∀ s ∈ l, s.2.length ≤ 140737488351232) :
    Calls Try.prog 3 #[v, sv s] W fun e W' => e = .returned (.bool true) ∧ Below W.heap.size W W' := by
  obtain ⟨m, hm⟩ : ∃ m, Bk.put l s = m := ⟨_, rfl⟩
  have hlen : m.length ≤ l.length + 1 := by rw [← hm, Bk.put_len]; split <;> omega
  obtain ⟨hh, hhe⟩ : ∃ h, Bk.has l s = h := ⟨_, rfl⟩
  obtain ⟨q, hq⟩ : ∃ q, Bk.right l = q := ⟨_, rfl⟩
  have HR := Lib.hid (fun w hw => (hm ▸ rbput_any v l s w hw (by omega) ht hlt : Calls Try.prog 13 #[v, sv s] w fun e w' => ∃ u, e = .returned u ∧ FlatAt w' u 2 (seals m) ∧ Below w.heap.size w w'))
  have HRR := Lib.hid (fun w hw => (hq ▸ rright v l w hw (by omega) hlt : Calls Try.prog 17 #[v] w fun e w' => e = .returned (.bool q) ∧ Below w.heap.size w w'))
  have HPH := Lib.hid (fun w hw => (hhe ▸ pbhas v l s w hw (by omega) : Calls Try.prog 14 #[v, sv s] w fun e w' => e = .returned (.bool hh) ∧ Below w.heap.size w w'))
  have HS := Lib.hid (fun va vb w ha hb => (by
    have h := rbsame_any va vb m m w ha hb (by omega)
    rw [decide_eq_true rfl] at h
    exact h.mono fun e w' ⟨h1, n, h2⟩ => ⟨h1, by rw [h2]; exact grow_draws _ _⟩ : Calls Try.prog 11 #[va, vb] w fun e w' => e = .returned (.bool true) ∧ Below w.heap.size w w'))
  have HM := Lib.hid hm
  have HH := Lib.hid hhe
  have HQ := Lib.hid hq
  have HV := Lib.hid hv
  clear hm hhe hq hv hlt ht
  obtain ⟨x, t⟩ := s
  simp only [sv, iv] at HR HPH
  obtain ⟨w0, hw0⟩ : ∃ w0, W.alloc (.cells #[.int .i64 x, tx t] 24) = w0 := ⟨_, rfl⟩
  have GR := Lib.hid (show Below W.heap.size W w0 by rw [← hw0]; exact (Below.refl _ _).alloc (Nat.le_refl _) _)
  obtain ⟨C, hC⟩ : ∃ C, W.heap.size = C := ⟨_, rfl⟩
  have B0 := Lib.hid (show w0.cell? ⟨C, 0, none⟩ = some (.int .i64 x) by rw [← hw0, ← hC]; simp)
  have B1 := Lib.hid (show w0.cell? ⟨C, 1, none⟩ = some (tx t) by rw [← hw0, ← hC]; simp)
  simp only [sv, iv]
  go_enter Try.func3, Try.ntmps3
  go_wp2_with fail
  clear hw0
  refine (bkShown _).mono ?_
  rintro e w1 ⟨rfl, h1⟩
  have r0 := below_cell h1 B0.out
  have r1 := below_cell h1 B1.out
  have HA := Lib.hid (HV.out.below (GR.out.trans (h1.mono GR.out.size)))
  have G1 := Lib.hid (GR.out.trans (h1.mono GR.out.size))
  clear h1
  have hS : (fun w' : World => w'.cell? ⟨C, 0, none⟩ = some (.int .i64 x) ∧ w'.cell? ⟨C, 1, none⟩ = some (tx t) ∧ Below w1.heap.size w1 w') w1 := ⟨r0, r1, Below.refl _ _⟩
  have hk := Lib.hid (show ∀ A1 A2 : World, (fun w' : World => w'.cell? ⟨C, 0, none⟩ = some (.int .i64 x) ∧ w'.cell? ⟨C, 1, none⟩ = some (tx t) ∧ Below w1.heap.size w1 w') A1 → Below A1.heap.size A1 A2 → (fun w' : World => w'.cell? ⟨C, 0, none⟩ = some (.int .i64 x) ∧ w'.cell? ⟨C, 1, none⟩ = some (tx t) ∧ Below w1.heap.size w1 w') A2 from fun A1 A2 ⟨k0, k1, kb⟩ h => ⟨below_cell h k0, below_cell h k1, grow_trans kb h⟩)
  clear r0 r1
  go_upto_region 2 with fail
  refine wp_region_held_drew (S := (fun w' : World => w'.cell? ⟨C, 0, none⟩ = some (.int .i64 x) ∧ w'.cell? ⟨C, 1, none⟩ = some (tx t) ∧ Below w1.heap.size w1 w')) (by kernel_rfl) ?_ (fun hHeld => ?_)
  · exact hk.out _ _ hS (Below.drew (Below.refl _ _))
  refine takeW (i := 0) (v := ?_) rfl (by kernel_rfl) (by kernel_rfl) (by kernel_rfl) (fun _ _ _ h => h) (by rfl) ?_ (by assumption) ?_
  rotate_left
  focus (intro w hSw; (try dsimp only at hSw); go_simp; try (with_reducible rfl))
  simp only [Act.put, List.setIfInBounds_toArray, List.set_cons_zero, List.set_cons_succ]
  refine takeW (i := 1) (v := ?_) rfl (by kernel_rfl) (by kernel_rfl) (by kernel_rfl) (fun _ _ _ h => h) (by rfl) ?_ (by assumption) ?_
  rotate_left
  focus (intro w hSw; (try dsimp only at hSw); go_simp; try (with_reducible rfl))
  simp only [Act.put, List.setIfInBounds_toArray, List.set_cons_zero, List.set_cons_succ]
  refine takeW (i := 3) (v := ?_) rfl (by kernel_rfl) (by kernel_rfl) (by kernel_rfl) (fun _ _ _ h => h) (by rfl) ?_ (by assumption) ?_
  rotate_left
  focus (intro w hSw; (try dsimp only at hSw); go_simp; try (with_reducible rfl))
  simp only [Act.put, List.setIfInBounds_toArray, List.set_cons_zero, List.set_cons_succ]
  refine takeW (i := 4) (v := ?_) rfl (by kernel_rfl) (by kernel_rfl) (by kernel_rfl) (fun _ _ _ h => h) (by rfl) ?_ (by assumption) ?_
  rotate_left
  focus (intro w hSw; (try dsimp only at hSw); go_simp; try (with_reducible rfl))
  simp only [Act.put, List.setIfInBounds_toArray, List.set_cons_zero, List.set_cons_succ]
  refine readyOne (i := 2) (by kernel_rfl) rfl (fun K hK => ?_)
  go_simp
  refine (pput_eq HM.out _ (HA.out.below (show (fun w' : World => w'.cell? ⟨C, 0, none⟩ = some (.int .i64 x) ∧ w'.cell? ⟨C, 1, none⟩ = some (tx t) ∧ Below w1.heap.size w1 w') _ by assumption).2.2) (by omega)).mono ?_
  rintro e w9 ⟨u9, rfl, hu9, h9⟩
  have kS : (fun w' : World => w'.cell? ⟨C, 0, none⟩ = some (.int .i64 x) ∧ w'.cell? ⟨C, 1, none⟩ = some (tx t) ∧ Below w1.heap.size w1 w') w9 := hk.out _ _ (by assumption) h9
  go_wp2_with fail
  refine hK.out _ _ kS (fun hHeld => ?_)
  clear hK K
  refine readyOne (i := 5) (by kernel_rfl) rfl (fun K hK => ?_)
  go_simp
  refine (HR.out _ (HA.out.below (show (fun w' : World => w'.cell? ⟨C, 0, none⟩ = some (.int .i64 x) ∧ w'.cell? ⟨C, 1, none⟩ = some (tx t) ∧ Below w1.heap.size w1 w') _ by assumption).2.2)).mono ?_
  rintro e w8 ⟨u8, rfl, hu8, h8⟩
  have kS : (fun w' : World => w'.cell? ⟨C, 0, none⟩ = some (.int .i64 x) ∧ w'.cell? ⟨C, 1, none⟩ = some (tx t) ∧ Below w1.heap.size w1 w') w8 := hk.out _ _ (by assumption) h8
  have hu7 := hu9.below h8
  go_wp2_with fail
  refine hK.out _ _ kS (fun hHeld => ?_)
  clear hK K
  refine readyOne (i := 6) (by kernel_rfl) rfl (fun K hK => ?_)
  go_simp
  refine (HS.out _ _ _ hu7.flat hu8).mono ?_
  rintro e w7 ⟨rfl, h7⟩
  have kS : (fun w' : World => w'.cell? ⟨C, 0, none⟩ = some (.int .i64 x) ∧ w'.cell? ⟨C, 1, none⟩ = some (tx t) ∧ Below w1.heap.size w1 w') w7 := hk.out _ _ (by assumption) h7
  go_wp2_with fail
  refine hK.out _ _ kS (fun hHeld => ?_)
  clear hK K
  refine takeW (i := 7) (v := ?_) rfl (by kernel_rfl) (by kernel_rfl) (by kernel_rfl) (fun _ _ _ h => h) (by rfl) ?_ (by assumption) ?_
  rotate_left
  focus (intro w hSw; (try dsimp only at hSw); go_simp; try (with_reducible rfl))
  simp only [Act.put, List.setIfInBounds_toArray, List.set_cons_zero, List.set_cons_succ]
  refine wpAnyH_done (by kernel_rfl) ?_ _
  clear hS
  have kZ := (show (fun w' : World => w'.cell? ⟨C, 0, none⟩ = some (.int .i64 x) ∧ w'.cell? ⟨C, 1, none⟩ = some (tx t) ∧ Below w1.heap.size w1 w') _ by assumption)
  go_upto_region 3 with fail
  refine wp_region_held_drew (S := (fun w' : World => w'.cell? ⟨C, 0, none⟩ = some (.int .i64 x) ∧ w'.cell? ⟨C, 1, none⟩ = some (tx t) ∧ Below w1.heap.size w1 w')) (by kernel_rfl) ?_ (fun hHeld => ?_)
  · exact hk.out _ _ (by assumption) (Below.drew (Below.refl _ _))
  refine takeW (i := 0) (v := ?_) rfl (by kernel_rfl) (by kernel_rfl) (by kernel_rfl) (fun _ _ _ h => h) (by rfl) ?_ (by assumption) ?_
  rotate_left
  focus (intro w hSw; (try dsimp only at hSw); go_simp; try (with_reducible rfl))
  simp only [Act.put, List.setIfInBounds_toArray, List.set_cons_zero, List.set_cons_succ]
  refine takeW (i := 1) (v := ?_) rfl (by kernel_rfl) (by kernel_rfl) (by kernel_rfl) (fun _ _ _ h => h) (by rfl) ?_ (by assumption) ?_
  rotate_left
  focus (intro w hSw; (try dsimp only at hSw); go_simp; try (with_reducible rfl))
  simp only [Act.put, List.setIfInBounds_toArray, List.set_cons_zero, List.set_cons_succ]
  refine takeW (i := 2) (v := ?_) rfl (by kernel_rfl) (by kernel_rfl) (by kernel_rfl) (fun _ _ _ h => h) (by rfl) ?_ (by assumption) ?_
  rotate_left
  focus (intro w hSw; (try dsimp only at hSw); go_simp; try (with_reducible rfl))
  simp only [Act.put, List.setIfInBounds_toArray, List.set_cons_zero, List.set_cons_succ]
  refine takeW (i := 3) (v := ?_) rfl (by kernel_rfl) (by kernel_rfl) (by kernel_rfl) (fun _ _ _ h => h) (by rfl) ?_ (by assumption) ?_
  rotate_left
  focus (intro w hSw; (try dsimp only at hSw); go_simp; try (with_reducible rfl))
  simp only [Act.put, List.setIfInBounds_toArray, List.set_cons_zero, List.set_cons_succ]
  refine takeW (i := 4) (v := ?_) rfl (by kernel_rfl) (by kernel_rfl) (by kernel_rfl) (fun _ _ _ h => h) (by rfl) ?_ (by assumption) ?_
  rotate_left
  focus (intro w hSw; (try dsimp only at hSw); go_simp; try (with_reducible rfl))
  simp only [Act.put, List.setIfInBounds_toArray, List.set_cons_zero, List.set_cons_succ]
  refine takeW (i := 5) (v := ?_) rfl (by kernel_rfl) (by kernel_rfl) (by kernel_rfl) (fun _ _ _ h => h) (by rfl) ?_ (by assumption) ?_
  rotate_left
  focus (intro w hSw; (try dsimp only at hSw); go_simp; try (with_reducible rfl))
  simp only [Act.put, List.setIfInBounds_toArray, List.set_cons_zero, List.set_cons_succ]
  refine takeW (i := 6) (v := ?_) rfl (by kernel_rfl) (by kernel_rfl) (by kernel_rfl) (fun _ _ _ h => h) (by rfl) ?_ (by assumption) ?_
  rotate_left
  focus (intro w hSw; (try dsimp only at hSw); go_simp; try (with_reducible rfl))
  simp only [Act.put, List.setIfInBounds_toArray, List.set_cons_zero, List.set_cons_succ]
  refine takeW (i := 8) (v := ?_) rfl (by kernel_rfl) (by kernel_rfl) (by kernel_rfl) (fun _ _ _ h => h) (by rfl) ?_ (by assumption) ?_
  rotate_left
  focus (intro w hSw; (try dsimp only at hSw); go_simp; try (with_reducible rfl))
  simp only [Act.put, List.setIfInBounds_toArray, List.set_cons_zero, List.set_cons_succ]
  refine takeW (i := 9) (v := ?_) rfl (by kernel_rfl) (by kernel_rfl) (by kernel_rfl) (fun _ _ _ h => h) (by rfl) ?_ (by assumption) ?_
  rotate_left
  focus (intro w hSw; (try dsimp only at hSw); go_simp; try (with_reducible rfl))
  simp only [Act.put, List.setIfInBounds_toArray, List.set_cons_zero, List.set_cons_succ]
  refine readyOne (i := 7) (by kernel_rfl) rfl (fun K hK => ?_)
  go_simp
  refine (HPH.out _ (HA.out.below (show (fun w' : World => w'.cell? ⟨C, 0, none⟩ = some (.int .i64 x) ∧ w'.cell? ⟨C, 1, none⟩ = some (tx t) ∧ Below w1.heap.size w1 w') _ by assumption).2.2).flat).mono ?_
  rintro e w9 ⟨rfl, h9⟩
  have kS : (fun w' : World => w'.cell? ⟨C, 0, none⟩ = some (.int .i64 x) ∧ w'.cell? ⟨C, 1, none⟩ = some (tx t) ∧ Below w1.heap.size w1 w') w9 := hk.out _ _ (by assumption) h9
  go_wp2_with fail
  refine hK.out _ _ kS (fun hHeld => ?_)
  clear hK K
  refine readyOne (i := 10) (by kernel_rfl) rfl (fun K hK => ?_)
  go_simp
  refine (rbhas_eq (s := (x, t)) HH.out _ (HA.out.below (show (fun w' : World => w'.cell? ⟨C, 0, none⟩ = some (.int .i64 x) ∧ w'.cell? ⟨C, 1, none⟩ = some (tx t) ∧ Below w1.heap.size w1 w') _ by assumption).2.2).flat (by omega)).mono ?_
  rintro e w9 ⟨rfl, h9⟩
  have kS : (fun w' : World => w'.cell? ⟨C, 0, none⟩ = some (.int .i64 x) ∧ w'.cell? ⟨C, 1, none⟩ = some (tx t) ∧ Below w1.heap.size w1 w') w9 := hk.out _ _ (by assumption) h9
  go_wp2_with fail
  refine hK.out _ _ kS (fun hHeld => ?_)
  clear hK K
  refine takeW (i := 11) (v := ?_) rfl (by kernel_rfl) (by kernel_rfl) (by kernel_rfl) (fun _ _ _ h => h) (by rfl) ?_ (by assumption) ?_
  rotate_left
  focus (intro w hSw; (try dsimp only at hSw); go_simp; try (with_reducible rfl))
  simp only [Act.put, List.setIfInBounds_toArray, List.set_cons_zero, List.set_cons_succ]
  refine takeW (i := 12) (v := ?_) rfl (by kernel_rfl) (by kernel_rfl) (by kernel_rfl) (fun _ _ _ h => h) (by rfl) ?_ (by assumption) ?_
  rotate_left
  focus (intro w hSw; (try dsimp only at hSw); go_simp; try (with_reducible rfl))
  simp only [Act.put, List.setIfInBounds_toArray, List.set_cons_zero, List.set_cons_succ]
  refine takeW (i := 13) (v := ?_) rfl (by kernel_rfl) (by kernel_rfl) (by kernel_rfl) (fun _ _ _ h => h) (by rfl) ?_ (by assumption) ?_
  rotate_left
  focus (intro w hSw; (try dsimp only at hSw); go_simp; try (with_reducible rfl))
  simp only [Act.put, List.setIfInBounds_toArray, List.set_cons_zero, List.set_cons_succ]
  refine takeW (i := 14) (v := ?_) rfl (by kernel_rfl) (by kernel_rfl) (by kernel_rfl) (fun _ _ _ h => h) (by rfl) ?_ (by assumption) ?_
  rotate_left
  focus (intro w hSw; (try dsimp only at hSw); go_simp; try (with_reducible rfl))
  simp only [Act.put, List.setIfInBounds_toArray, List.set_cons_zero, List.set_cons_succ]
  refine takeW (i := 16) (v := ?_) rfl (by kernel_rfl) (by kernel_rfl) (by kernel_rfl) (fun _ _ _ h => h) (by rfl) ?_ (by assumption) ?_
  rotate_left
  focus (intro w hSw; (try dsimp only at hSw); go_simp; try (with_reducible rfl))
  simp only [Act.put, List.setIfInBounds_toArray, List.set_cons_zero, List.set_cons_succ]
  refine readyOne (i := 15) (by kernel_rfl) rfl (fun K hK => ?_)
  go_simp
  refine (pright_eq HQ.out _ (HA.out.below (show (fun w' : World => w'.cell? ⟨C, 0, none⟩ = some (.int .i64 x) ∧ w'.cell? ⟨C, 1, none⟩ = some (tx t) ∧ Below w1.heap.size w1 w') _ by assumption).2.2).flat (by omega)).mono ?_
  rintro e w9 ⟨rfl, h9⟩
  have kS : (fun w' : World => w'.cell? ⟨C, 0, none⟩ = some (.int .i64 x) ∧ w'.cell? ⟨C, 1, none⟩ = some (tx t) ∧ Below w1.heap.size w1 w') w9 := hk.out _ _ (by assumption) h9
  go_wp2_with fail
  refine hK.out _ _ kS (fun hHeld => ?_)
  clear hK K
  refine readyOne (i := 17) (by kernel_rfl) rfl (fun K hK => ?_)
  go_simp
  refine (HRR.out _ (HA.out.below (show (fun w' : World => w'.cell? ⟨C, 0, none⟩ = some (.int .i64 x) ∧ w'.cell? ⟨C, 1, none⟩ = some (tx t) ∧ Below w1.heap.size w1 w') _ by assumption).2.2).flat).mono ?_
  rintro e w9 ⟨rfl, h9⟩
  have kS : (fun w' : World => w'.cell? ⟨C, 0, none⟩ = some (.int .i64 x) ∧ w'.cell? ⟨C, 1, none⟩ = some (tx t) ∧ Below w1.heap.size w1 w') w9 := hk.out _ _ (by assumption) h9
  go_wp2_with fail
  refine hK.out _ _ kS (fun hHeld => ?_)
  clear hK K
  refine takeW (i := 18) (v := ?_) rfl (by kernel_rfl) (by kernel_rfl) (by kernel_rfl) (fun _ _ _ h => h) (by rfl) ?_ (by assumption) ?_
  rotate_left
  focus (intro w hSw; (try dsimp only at hSw); go_simp; try (with_reducible rfl))
  simp only [Act.put, List.setIfInBounds_toArray, List.set_cons_zero, List.set_cons_succ]
  refine takeW (i := 19) (v := ?_) rfl (by kernel_rfl) (by kernel_rfl) (by kernel_rfl) (fun _ _ _ h => h) (by rfl) ?_ (by assumption) ?_
  rotate_left
  focus (intro w hSw; (try dsimp only at hSw); go_simp; try (with_reducible rfl))
  simp only [Act.put, List.setIfInBounds_toArray, List.set_cons_zero, List.set_cons_succ]
  refine takeW (i := 20) (v := ?_) rfl (by kernel_rfl) (by kernel_rfl) (by kernel_rfl) (fun _ _ _ h => h) (by rfl) ?_ (by assumption) ?_
  rotate_left
  focus (intro w hSw; (try dsimp only at hSw); go_simp; try (with_reducible rfl))
  simp only [Act.put, List.setIfInBounds_toArray, List.set_cons_zero, List.set_cons_succ]
  refine wpAnyH_done (by kernel_rfl) ?_ _
  have kY := (show (fun w' : World => w'.cell? ⟨C, 0, none⟩ = some (.int .i64 x) ∧ w'.cell? ⟨C, 1, none⟩ = some (tx t) ∧ Below w1.heap.size w1 w') _ by assumption)
  have HZ := Lib.hid (G1.out.trans (kY.2.2.mono G1.out.size))
  clear kY kZ
  go_wp2
  go_ret
  exact ⟨by simp, HZ.out⟩

theorem bookPuts_walk {H : Type} (enc : TypeId × Value → H) (W : World) (base : Nat) (v0 : Value) (v1 : Value) (d0 : DataW H) (d1 : DataW H) (p0 : List MemPlace) (p1 : List MemPlace)
    (h0 : DataW.Trod enc Try.prog W 0 (fun _ => true) true 22 v0 d0 p0) (o0 : Value.okWide Try.prog W .any base 22 v0)
    (h1 : DataW.Trod enc Try.prog W 0 (fun _ => true) true 24 v1 d1 p1) (o1 : Value.okWide Try.prog W .any base 24 v1)
    (hsz : (DataW.weightsEach Try.prog [22, 24] [d0, d1]).all (· ≤ reachBytes) = true) :
    Calls Try.prog 3 #[v0, v1] W fun e W' => e = .returned (.bool true) ∧ Below W.heap.size W W' := by
  simp only [DataW.weightsEach, List.all_append, Bool.and_eq_true] at hsz
  obtain ⟨a, len, cap, rfl⟩ := okWide_slice Try.underlying22 o0
  obtain ⟨n0, e0⟩ := h0
  obtain ⟨l, hv, hl, hlt⟩ := trod_seals2 e0 hsz.1
  obtain ⟨a0, a1, y0, y1, m, rfl, rfl, _, f0, f1⟩ := Joins.open_agg2 Try.underlying24 (by kernel_rfl) (by kernel_rfl) o1 h1
  obtain ⟨x, _, _, rfl, rfl⟩ := trod_i64 Try.underlying3 f0
  obtain ⟨t, rfl, rfl⟩ := trod_tx Try.underlying9 f1
  have ht : t.length ≤ 140737488351232 := by
    have h := hsz.2.1
    simp only [DataW.weights, Try.underlying24, DataW.weightsEach, List.all_append, List.all_cons, Bool.and_eq_true, List.map_cons] at h
    exact reach_nat (of_decide_eq_true h.2.1.1)
  exact bookPuts_core _ l (x, t) W hv hl ht hlt
end Go.Proofs.Ytpodccgaigkalaa
