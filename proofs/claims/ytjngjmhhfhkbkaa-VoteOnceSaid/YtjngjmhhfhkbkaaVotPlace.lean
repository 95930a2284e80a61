/- Package vote as it landed: place. (Written by gen-vplace.py.) -/
import Derived.Test.YtjngjmhhfhkbkaaVotCmp
import Derived.Deep.DeepCutAuto
import Derived.ScopeJumps
namespace Vt
theorem place_of (y : Bl) (l : List Bl) (k : Nat) (h : k < l.length) (hr : ahead y l[k] = true) (hp : ∀ j (hj : j < k), ahead y (l[j]'(by omega)) = false) : place y l = k := by
  induction l generalizing k with
  | nil => simp at h
  | cons x l ih =>
    rw [place]
    cases k with
    | zero => rw [if_pos (by simpa using hr)]
    | succ k =>
      have h0 := hp 0 (by omega)
      rw [if_neg (by simpa using h0), ih k (by simpa using h) (by simpa using hr) (fun j hj => hp (j + 1) (by omega))]
theorem place_end (y : Bl) (l : List Bl) (hp : ∀ j (hj : j < l.length), ahead y l[j] = false) : place y l = l.length := by
  induction l with
  | nil => rfl
  | cons x l ih =>
    have h0 := hp 0 (by simp)
    rw [place, if_neg (by simpa using h0), ih (fun j hj => hp (j + 1) (by simp; omega))]
    simp
end Vt
namespace Go.Proofs.Ytjngjmhhfhkbkaa
open Go.RowKit

set_option maxHeartbeats 2000000 in
theorem pplace_nil (a : Option Addr) (cap : Nat) (y : Vt.Bl) (w : World) :
    Calls Try.prog 21 #[.slice a 0 cap, bval y] w fun e w' => e = .returned (.int .i64 (Vt.place y [] : Nat)) ∧ Below w.heap.size w w' := by
  obtain ⟨x, r, t⟩ := y
  obtain ⟨w0, hw0⟩ : ∃ w0, w.alloc (.cells #[iv x, iv r, tx t] 24) = w0 := ⟨_, rfl⟩
  have g0 : Below w.heap.size w w0 := by rw [← hw0]; exact (Below.refl _ _).alloc (Nat.le_refl _) _
  go_enter Try.func21, Try.ntmps21
  go_wp2_with fail
  refine wp_scope_jumps 0 (fun _ _ => False) (fun _ _ => 0) rfl ?_ ?_
  · go_wp2_with fail
    go_step3
    go_upto_region 2 with fail
    have hb : Below w0.heap.size w0 w0 := Below.refl _ _
    refine wp_region_held_drew (S := (fun w' : World => Below w0.heap.size w0 w')) (by kernel_rfl) ?_ (fun hHeld => ?_)
    · exact hb.drew
    refine takeW (i := 0) (v := ?_) rfl (by kernel_rfl) (by kernel_rfl) (by kernel_rfl) (fun _ _ _ h => h) (by rfl) ?_ (by assumption) ?_
    rotate_left
    focus (intro w hSw; (try dsimp only at hSw); go_simp; try (with_reducible rfl))
    simp only [Act.put, List.setIfInBounds_toArray, List.set_cons_zero, List.set_cons_succ]
    refine takeW (i := 1) (v := ?_) rfl (by kernel_rfl) (by kernel_rfl) (by kernel_rfl) (fun _ _ _ h => h) (by rfl) ?_ (by assumption) ?_
    rotate_left
    focus (intro w hSw; (try dsimp only at hSw); go_simp; try (with_reducible rfl))
    simp only [Act.put, List.setIfInBounds_toArray, List.set_cons_zero, List.set_cons_succ]
    refine takeW (i := 2) (v := ?_) rfl (by kernel_rfl) (by kernel_rfl) (by kernel_rfl) (fun _ _ _ h => h) (by rfl) ?_ (by assumption) ?_
    rotate_left
    focus (intro w hSw; (try dsimp only at hSw); go_simp; try (with_reducible rfl))
    simp only [Act.put, List.setIfInBounds_toArray, List.set_cons_zero, List.set_cons_succ]
    refine takeW (i := 3) (v := ?_) rfl (by kernel_rfl) (by kernel_rfl) (by kernel_rfl) (fun _ _ _ h => h) (by rfl) ?_ (by assumption) ?_
    rotate_left
    focus (intro w hSw; (try dsimp only at hSw); go_simp; try (with_reducible rfl))
    simp only [Act.put, List.setIfInBounds_toArray, List.set_cons_zero, List.set_cons_succ]
    refine takeW (i := 4) (v := ?_) rfl (by kernel_rfl) (by kernel_rfl) (by kernel_rfl) (fun _ _ _ h => h) (by rfl) ?_ (by assumption) ?_
    rotate_left
    focus (intro w hSw; (try dsimp only at hSw); go_simp; try (with_reducible rfl))
    simp only [Act.put, List.setIfInBounds_toArray, List.set_cons_zero, List.set_cons_succ]
    refine takeU (i := 5) rfl (by kernel_rfl) (by kernel_rfl) (by kernel_rfl) (fun _ _ _ h => h) (by rfl) (by assumption) ?_
    simp only [Act.put, List.setIfInBounds_toArray, List.set_cons_zero, List.set_cons_succ]
    refine takeU (i := 6) rfl (by kernel_rfl) (by kernel_rfl) (by kernel_rfl) (fun _ _ _ h => h) (by rfl) (by assumption) ?_
    simp only [Act.put, List.setIfInBounds_toArray, List.set_cons_zero, List.set_cons_succ]
    refine takeU (i := 7) rfl (by kernel_rfl) (by kernel_rfl) (by kernel_rfl) (fun _ _ _ h => h) (by rfl) (by assumption) ?_
    simp only [Act.put, List.setIfInBounds_toArray, List.set_cons_zero, List.set_cons_succ]
    refine takeU (i := 8) rfl (by kernel_rfl) (by kernel_rfl) (by kernel_rfl) (fun _ _ _ h => h) (by rfl) (by assumption) ?_
    simp only [Act.put, List.setIfInBounds_toArray, List.set_cons_zero, List.set_cons_succ]
    refine takeU (i := 9) rfl (by kernel_rfl) (by kernel_rfl) (by kernel_rfl) (fun _ _ _ h => h) (by rfl) (by assumption) ?_
    simp only [Act.put, List.setIfInBounds_toArray, List.set_cons_zero, List.set_cons_succ]
    refine takeU (i := 10) rfl (by kernel_rfl) (by kernel_rfl) (by kernel_rfl) (fun _ _ _ h => h) (by rfl) (by assumption) ?_
    simp only [Act.put, List.setIfInBounds_toArray, List.set_cons_zero, List.set_cons_succ]
    refine takeU (i := 11) rfl (by kernel_rfl) (by kernel_rfl) (by kernel_rfl) (fun _ _ _ h => h) (by rfl) (by assumption) ?_
    simp only [Act.put, List.setIfInBounds_toArray, List.set_cons_zero, List.set_cons_succ]
    refine takeW (i := 12) (v := ?_) rfl (by kernel_rfl) (by kernel_rfl) (by kernel_rfl) (fun _ _ _ h => h) (by rfl) ?_ (by assumption) ?_
    rotate_left
    focus (intro w hSw; (try dsimp only at hSw); go_simp; try (with_reducible rfl))
    simp only [Act.put, List.setIfInBounds_toArray, List.set_cons_zero, List.set_cons_succ]
    refine wpAnyH_done (by kernel_rfl) ?_ _
    go_wp2
    simp only [Exit.jump]
    go_ret
    exact ⟨rfl, g0.drew⟩
  · rintro a' w' h
    exact h.elim

set_option maxHeartbeats 4000000 in
set_option maxRecDepth 100000 in
theorem pplace_some (b off cap : Nat) (l : List Vt.Bl) (y : Vt.Bl) (w : World) (h0 : 0 < l.length)
    (hc : ∀ k (hk : k < l.length), w.cell? ⟨b, off + k * 3, none⟩ = some (iv l[k].1) ∧ w.cell? ⟨b, off + k * 3 + 1, none⟩ = some (iv l[k].2.1) ∧ w.cell? ⟨b, off + k * 3 + 2, none⟩ = some (tx l[k].2.2)) (hl : l.length ≤ 140737488351232) :
    Calls Try.prog 21 #[.slice (some ⟨b, off, none⟩) l.length cap, bval y] w fun e w' => e = .returned (.int .i64 (Vt.place y l : Nat)) ∧ Below w.heap.size w w' := by
  obtain ⟨x, r, t⟩ := y
  obtain ⟨C, hC⟩ : ∃ C, w.heap.size = C := ⟨_, rfl⟩
  obtain ⟨w0, hw0⟩ : ∃ w0, w.alloc (.cells #[iv x, iv r, tx t] 24) = w0 := ⟨_, rfl⟩
  have GR := Lib.hid (show Below w.heap.size w w0 by rw [← hw0]; exact (Below.refl _ _).alloc (Nat.le_refl _) _)
  have hsz0 : w.heap.size ≤ w0.heap.size := GR.out.size
  have B0 := Lib.hid (show w0.cell? ⟨C, 0, none⟩ = some (.int .i64 x) by rw [← hw0, ← hC]; simp [iv])
  have B1 := Lib.hid (show w0.cell? ⟨C, 1, none⟩ = some (.int .i64 r) by rw [← hw0, ← hC]; simp [iv])
  have B2 := Lib.hid (show w0.cell? ⟨C, 2, none⟩ = some (tx t) by rw [← hw0, ← hC]; simp)
  have HC := Lib.hid fun k hk => (show w0.cell? ⟨b, off + k * 3, none⟩ = some (iv l[k].1) ∧ w0.cell? ⟨b, off + k * 3 + 1, none⟩ = some (iv l[k].2.1) ∧ w0.cell? ⟨b, off + k * 3 + 2, none⟩ = some (tx l[k].2.2) from ⟨below_cell GR.out (hc k hk).1, below_cell GR.out (hc k hk).2.1, below_cell GR.out (hc k hk).2.2⟩)
  clear hc
  go_enter Try.func21, Try.ntmps21
  go_wp2_with fail
  refine wp_scope_jumps 0 (fun a' w' => ∃ (k : Nat) (u6 u7 u8 u9 u10 u11 u12 u13 u14 u15 u16 u17 u18 u19 u20 u21 : Value), a' = { tmps := #[.slice (some ⟨b, off, none⟩) l.length cap, .agg #[.int .i64 x, .int .i64 r, tx t], undef, .pointer (some ⟨C, 0, none⟩), .int .i64 0, .int .i64 k, u6, u7, u8, u9, u10, u11, u12, u13, u14, u15, u16, u17, u18, u19, u20, u21], defers := [] } ∧ k ≤ l.length ∧ (∀ j (hj : j < l.length), j < k → Vt.ahead (x, r, t) l[j] = false) ∧ Below w0.heap.size w0 w') (fun a' _ => l.length - (intOf (a'.tmps.getD 5 undef)).toNat) rfl ?_ ?_
  · go_wp2_with fail
    go_step3
    go_upto_region 2 with fail
    have HN := Lib.hid (show ∀ j (hj : j < l.length), j < 0 → Vt.ahead (x, r, t) l[j] = false from fun _ _ h => absurd h (by omega))
    have hlt := h0
    have hb : Below w0.heap.size w0 w0 := Below.refl _ _
    clear h0 hw0 hC
    obtain ⟨c1', c2', c3'⟩ := HC.out 0 hlt
    have c1 := below_cell hb c1'
    have c2 := below_cell hb c2'
    have c3 := below_cell hb c3'
    have b1 := below_cell hb B0.out
    have b2 := below_cell hb B1.out
    have b3 := below_cell hb B2.out
    clear c1' c2' c3'
    simp only [Nat.zero_mul, Nat.add_zero] at c1 c2 c3
    have HX := Lib.hid fun (hr : Vt.ahead (x, r, t) l[0] = false) => (show ∀ j (hj : j < l.length), j < 0 + 1 → Vt.ahead (x, r, t) l[j] = false from fun j hj hjk => by
      by_cases e : j = 0
      · subst e; exact hr
      · exact HN.out j hj (by omega))
    have HY := Lib.hid fun (hr : Vt.ahead (x, r, t) l[0] = true) => (show Vt.place (x, r, t) l = 0 from Vt.place_of _ l 0 hlt hr (fun j hj => HN.out j (by omega) hj))
    obtain ⟨y, hy⟩ : ∃ y, l[0] = y := ⟨_, rfl⟩
    simp only [hy] at c1 c2 c3 HX HY
    clear hy
    have hcmp := fun W => pcompare y (x, r, t) W
    have hle := cmpB_le y (x, r, t)
    obtain ⟨x', r', t'⟩ := y
    simp only [iv] at c1 c2 c3 hcmp
    generalize cmpB (x', r', t') (x, r, t) = q at *
    have hS : (fun w' : World => w'.cell? ⟨b, off, none⟩ = some (.int .i64 x') ∧ w'.cell? ⟨b, off + 1, none⟩ = some (.int .i64 r') ∧ w'.cell? ⟨b, off + 2, none⟩ = some (tx t') ∧ w'.cell? ⟨C, 0, none⟩ = some (.int .i64 x) ∧ w'.cell? ⟨C, 1, none⟩ = some (.int .i64 r) ∧ w'.cell? ⟨C, 2, none⟩ = some (tx t) ∧ Below w0.heap.size w0 w') w0 := ⟨c1, c2, c3, b1, b2, b3, hb⟩
    have hkp := Lib.hid (show ∀ A1 A2 : World, (fun w' : World => w'.cell? ⟨b, off, none⟩ = some (.int .i64 x') ∧ w'.cell? ⟨b, off + 1, none⟩ = some (.int .i64 r') ∧ w'.cell? ⟨b, off + 2, none⟩ = some (tx t') ∧ w'.cell? ⟨C, 0, none⟩ = some (.int .i64 x) ∧ w'.cell? ⟨C, 1, none⟩ = some (.int .i64 r) ∧ w'.cell? ⟨C, 2, none⟩ = some (tx t) ∧ Below w0.heap.size w0 w') A1 → Below A1.heap.size A1 A2 → (fun w' : World => w'.cell? ⟨b, off, none⟩ = some (.int .i64 x') ∧ w'.cell? ⟨b, off + 1, none⟩ = some (.int .i64 r') ∧ w'.cell? ⟨b, off + 2, none⟩ = some (tx t') ∧ w'.cell? ⟨C, 0, none⟩ = some (.int .i64 x) ∧ w'.cell? ⟨C, 1, none⟩ = some (.int .i64 r) ∧ w'.cell? ⟨C, 2, none⟩ = some (tx t) ∧ Below w0.heap.size w0 w') A2 from fun A1 A2 ⟨k0, k1, k2, k3, k4, k5, kb⟩ h => ⟨below_cell h k0, below_cell h k1, below_cell h k2, below_cell h k3, below_cell h k4, below_cell h k5, grow_trans kb h⟩)
    have j0 : decide ((0 : Int) < (l.length : Int)) = true := by rw [decide_eq_true_iff]; omega
    have j1 : ((0 : Int) < (l.length : Int)) := by omega
    have j2 : (0 : Int) ≤ (0 : Int) := by omega
    have j3 : (0 : Int).toNat = 0 := by omega
    cases hq : Vt.ahead (x, r, t) (x', r', t') with
    | false =>
      have HN2 := Lib.hid (HX.out hq)
      rw [hq] at hle
      have hn2 : decide (q ≤ 0) = true := hle
      clear hq hle HX HY b1 b2 b3
      go_region_held3 (fun w' : World => w'.cell? ⟨b, off, none⟩ = some (.int .i64 x') ∧ w'.cell? ⟨b, off + 1, none⟩ = some (.int .i64 r') ∧ w'.cell? ⟨b, off + 2, none⟩ = some (tx t') ∧ w'.cell? ⟨C, 0, none⟩ = some (.int .i64 x) ∧ w'.cell? ⟨C, 1, none⟩ = some (.int .i64 r) ∧ w'.cell? ⟨C, 2, none⟩ = some (tx t) ∧ Below w0.heap.size w0 w')
        (first | assumption | exact hkp.out _ _ hS (Below.drew (Below.refl _ _)) | exact hkp.out _ _ (by assumption) ((Below.refl _ _).alloc (Nat.le_refl _) _))
        (first
          | (go_at_call 27; refine (keepB (fun w' : World => w'.cell? ⟨b, off, none⟩ = some (.int .i64 x') ∧ w'.cell? ⟨b, off + 1, none⟩ = some (.int .i64 r') ∧ w'.cell? ⟨b, off + 2, none⟩ = some (tx t') ∧ w'.cell? ⟨C, 0, none⟩ = some (.int .i64 x) ∧ w'.cell? ⟨C, 1, none⟩ = some (.int .i64 r) ∧ w'.cell? ⟨C, 2, none⟩ = some (tx t) ∧ Below w0.heap.size w0 w') hkp.out (hcmp _) (by assumption)).mono ?_; rintro e w9 ⟨rfl, kS⟩))
      all_goals go_wp2
      all_goals go_step3
      all_goals refine ⟨rfl, ?_⟩
      all_goals first
        | exact ⟨0 + 1, _, _, _, _, _, _, _, _, _, _, _, _, _, _, _, _, by go_num, hlt, HN2.out, (show (fun w' : World => w'.cell? ⟨b, off, none⟩ = some (.int .i64 x') ∧ w'.cell? ⟨b, off + 1, none⟩ = some (.int .i64 r') ∧ w'.cell? ⟨b, off + 2, none⟩ = some (tx t') ∧ w'.cell? ⟨C, 0, none⟩ = some (.int .i64 x) ∧ w'.cell? ⟨C, 1, none⟩ = some (.int .i64 r) ∧ w'.cell? ⟨C, 2, none⟩ = some (tx t) ∧ Below w0.heap.size w0 w') _ by assumption).2.2.2.2.2.2⟩
        | exact ⟨⟨0 + 1, _, _, _, _, _, _, _, _, _, _, _, _, _, _, _, _, by go_num, hlt, HN2.out, (show (fun w' : World => w'.cell? ⟨b, off, none⟩ = some (.int .i64 x') ∧ w'.cell? ⟨b, off + 1, none⟩ = some (.int .i64 r') ∧ w'.cell? ⟨b, off + 2, none⟩ = some (tx t') ∧ w'.cell? ⟨C, 0, none⟩ = some (.int .i64 x) ∧ w'.cell? ⟨C, 1, none⟩ = some (.int .i64 r) ∧ w'.cell? ⟨C, 2, none⟩ = some (tx t) ∧ Below w0.heap.size w0 w') _ by assumption).2.2.2.2.2.2⟩, by simp [intOf]; omega⟩
    | true =>
      have HF := Lib.hid (HY.out hq)
      rw [hq] at hle
      have hn2 : decide (q ≤ 0) = false := hle
      clear hq hle HX HY b1 b2 b3
      go_region_held3 (fun w' : World => w'.cell? ⟨b, off, none⟩ = some (.int .i64 x') ∧ w'.cell? ⟨b, off + 1, none⟩ = some (.int .i64 r') ∧ w'.cell? ⟨b, off + 2, none⟩ = some (tx t') ∧ w'.cell? ⟨C, 0, none⟩ = some (.int .i64 x) ∧ w'.cell? ⟨C, 1, none⟩ = some (.int .i64 r) ∧ w'.cell? ⟨C, 2, none⟩ = some (tx t) ∧ Below w0.heap.size w0 w')
        (first | assumption | exact hkp.out _ _ hS (Below.drew (Below.refl _ _)) | exact hkp.out _ _ (by assumption) ((Below.refl _ _).alloc (Nat.le_refl _) _))
        (first
          | (go_at_call 27; refine (keepB (fun w' : World => w'.cell? ⟨b, off, none⟩ = some (.int .i64 x') ∧ w'.cell? ⟨b, off + 1, none⟩ = some (.int .i64 r') ∧ w'.cell? ⟨b, off + 2, none⟩ = some (tx t') ∧ w'.cell? ⟨C, 0, none⟩ = some (.int .i64 x) ∧ w'.cell? ⟨C, 1, none⟩ = some (.int .i64 r) ∧ w'.cell? ⟨C, 2, none⟩ = some (tx t) ∧ Below w0.heap.size w0 w') hkp.out (hcmp _) (by assumption)).mono ?_; rintro e w9 ⟨rfl, kS⟩))
      all_goals go_wp2
      all_goals simp only [Exit.jump]
      all_goals go_ret
      all_goals exact ⟨by rw [HF.out]; rfl, GR.out.trans ((show (fun w' : World => w'.cell? ⟨b, off, none⟩ = some (.int .i64 x') ∧ w'.cell? ⟨b, off + 1, none⟩ = some (.int .i64 r') ∧ w'.cell? ⟨b, off + 2, none⟩ = some (tx t') ∧ w'.cell? ⟨C, 0, none⟩ = some (.int .i64 x) ∧ w'.cell? ⟨C, 1, none⟩ = some (.int .i64 r) ∧ w'.cell? ⟨C, 2, none⟩ = some (tx t) ∧ Below w0.heap.size w0 w') _ by assumption).2.2.2.2.2.2.mono hsz0)⟩
  · rintro a' wr ⟨k, u6, u7, u8, u9, u10, u11, u12, u13, u14, u15, u16, u17, u18, u19, u20, u21, rfl, hk, hn, hb⟩
    have HN := Lib.hid hn
    clear hn h0 hw0 hC
    by_cases hlt : k < l.length
    · go_upto_region 2 with fail
      obtain ⟨c1', c2', c3'⟩ := HC.out k hlt
      have c1 := below_cell hb c1'
      have c2 := below_cell hb c2'
      have c3 := below_cell hb c3'
      have b1 := below_cell hb B0.out
      have b2 := below_cell hb B1.out
      have b3 := below_cell hb B2.out
      clear c1' c2' c3'
      have HX := Lib.hid fun (hr : Vt.ahead (x, r, t) l[k] = false) => (show ∀ j (hj : j < l.length), j < k + 1 → Vt.ahead (x, r, t) l[j] = false from fun j hj hjk => by
        by_cases e : j = k
        · subst e; exact hr
        · exact HN.out j hj (by omega))
      have HY := Lib.hid fun (hr : Vt.ahead (x, r, t) l[k] = true) => (show Vt.place (x, r, t) l = k from Vt.place_of _ l k hlt hr (fun j hj => HN.out j (by omega) hj))
      obtain ⟨y, hy⟩ : ∃ y, l[k] = y := ⟨_, rfl⟩
      simp only [hy] at c1 c2 c3 HX HY
      clear hy
      have hcmp := fun W => pcompare y (x, r, t) W
      have hle := cmpB_le y (x, r, t)
      obtain ⟨x', r', t'⟩ := y
      simp only [iv] at c1 c2 c3 hcmp
      generalize cmpB (x', r', t') (x, r, t) = q at *
      have hS : (fun w' : World => w'.cell? ⟨b, off + k * 3, none⟩ = some (.int .i64 x') ∧ w'.cell? ⟨b, off + k * 3 + 1, none⟩ = some (.int .i64 r') ∧ w'.cell? ⟨b, off + k * 3 + 2, none⟩ = some (tx t') ∧ w'.cell? ⟨C, 0, none⟩ = some (.int .i64 x) ∧ w'.cell? ⟨C, 1, none⟩ = some (.int .i64 r) ∧ w'.cell? ⟨C, 2, none⟩ = some (tx t) ∧ Below w0.heap.size w0 w') wr := ⟨c1, c2, c3, b1, b2, b3, hb⟩
      have hkp := Lib.hid (show ∀ A1 A2 : World, (fun w' : World => w'.cell? ⟨b, off + k * 3, none⟩ = some (.int .i64 x') ∧ w'.cell? ⟨b, off + k * 3 + 1, none⟩ = some (.int .i64 r') ∧ w'.cell? ⟨b, off + k * 3 + 2, none⟩ = some (tx t') ∧ w'.cell? ⟨C, 0, none⟩ = some (.int .i64 x) ∧ w'.cell? ⟨C, 1, none⟩ = some (.int .i64 r) ∧ w'.cell? ⟨C, 2, none⟩ = some (tx t) ∧ Below w0.heap.size w0 w') A1 → Below A1.heap.size A1 A2 → (fun w' : World => w'.cell? ⟨b, off + k * 3, none⟩ = some (.int .i64 x') ∧ w'.cell? ⟨b, off + k * 3 + 1, none⟩ = some (.int .i64 r') ∧ w'.cell? ⟨b, off + k * 3 + 2, none⟩ = some (tx t') ∧ w'.cell? ⟨C, 0, none⟩ = some (.int .i64 x) ∧ w'.cell? ⟨C, 1, none⟩ = some (.int .i64 r) ∧ w'.cell? ⟨C, 2, none⟩ = some (tx t) ∧ Below w0.heap.size w0 w') A2 from fun A1 A2 ⟨k0, k1, k2, k3, k4, k5, kb⟩ h => ⟨below_cell h k0, below_cell h k1, below_cell h k2, below_cell h k3, below_cell h k4, below_cell h k5, grow_trans kb h⟩)
      have j0 : decide ((k : Int) < (l.length : Int)) = true := by rw [decide_eq_true_iff]; omega
      have j1 : ((k : Int) < (l.length : Int)) := by omega
      have j2 : (0 : Int) ≤ (k : Int) := by omega
      have j3 : (k : Int).toNat = k := by omega
      cases hq : Vt.ahead (x, r, t) (x', r', t') with
      | false =>
        have HN2 := Lib.hid (HX.out hq)
        rw [hq] at hle
        have hn2 : decide (q ≤ 0) = true := hle
        clear hq hle HX HY b1 b2 b3
        go_region_held3 (fun w' : World => w'.cell? ⟨b, off + k * 3, none⟩ = some (.int .i64 x') ∧ w'.cell? ⟨b, off + k * 3 + 1, none⟩ = some (.int .i64 r') ∧ w'.cell? ⟨b, off + k * 3 + 2, none⟩ = some (tx t') ∧ w'.cell? ⟨C, 0, none⟩ = some (.int .i64 x) ∧ w'.cell? ⟨C, 1, none⟩ = some (.int .i64 r) ∧ w'.cell? ⟨C, 2, none⟩ = some (tx t) ∧ Below w0.heap.size w0 w')
          (first | assumption | exact hkp.out _ _ hS (Below.drew (Below.refl _ _)) | exact hkp.out _ _ (by assumption) ((Below.refl _ _).alloc (Nat.le_refl _) _))
          (first
            | (go_at_call 27; refine (keepB (fun w' : World => w'.cell? ⟨b, off + k * 3, none⟩ = some (.int .i64 x') ∧ w'.cell? ⟨b, off + k * 3 + 1, none⟩ = some (.int .i64 r') ∧ w'.cell? ⟨b, off + k * 3 + 2, none⟩ = some (tx t') ∧ w'.cell? ⟨C, 0, none⟩ = some (.int .i64 x) ∧ w'.cell? ⟨C, 1, none⟩ = some (.int .i64 r) ∧ w'.cell? ⟨C, 2, none⟩ = some (tx t) ∧ Below w0.heap.size w0 w') hkp.out (hcmp _) (by assumption)).mono ?_; rintro e w9 ⟨rfl, kS⟩))
        all_goals go_wp2
        all_goals go_step3
        all_goals refine ⟨rfl, ?_⟩
        all_goals first
          | exact ⟨k + 1, _, _, _, _, _, _, _, _, _, _, _, _, _, _, _, _, by go_num, hlt, HN2.out, (show (fun w' : World => w'.cell? ⟨b, off + k * 3, none⟩ = some (.int .i64 x') ∧ w'.cell? ⟨b, off + k * 3 + 1, none⟩ = some (.int .i64 r') ∧ w'.cell? ⟨b, off + k * 3 + 2, none⟩ = some (tx t') ∧ w'.cell? ⟨C, 0, none⟩ = some (.int .i64 x) ∧ w'.cell? ⟨C, 1, none⟩ = some (.int .i64 r) ∧ w'.cell? ⟨C, 2, none⟩ = some (tx t) ∧ Below w0.heap.size w0 w') _ by assumption).2.2.2.2.2.2⟩
          | exact ⟨⟨k + 1, _, _, _, _, _, _, _, _, _, _, _, _, _, _, _, _, by go_num, hlt, HN2.out, (show (fun w' : World => w'.cell? ⟨b, off + k * 3, none⟩ = some (.int .i64 x') ∧ w'.cell? ⟨b, off + k * 3 + 1, none⟩ = some (.int .i64 r') ∧ w'.cell? ⟨b, off + k * 3 + 2, none⟩ = some (tx t') ∧ w'.cell? ⟨C, 0, none⟩ = some (.int .i64 x) ∧ w'.cell? ⟨C, 1, none⟩ = some (.int .i64 r) ∧ w'.cell? ⟨C, 2, none⟩ = some (tx t) ∧ Below w0.heap.size w0 w') _ by assumption).2.2.2.2.2.2⟩, by simp [intOf]; omega⟩
      | true =>
        have HF := Lib.hid (HY.out hq)
        rw [hq] at hle
        have hn2 : decide (q ≤ 0) = false := hle
        clear hq hle HX HY b1 b2 b3
        go_region_held3 (fun w' : World => w'.cell? ⟨b, off + k * 3, none⟩ = some (.int .i64 x') ∧ w'.cell? ⟨b, off + k * 3 + 1, none⟩ = some (.int .i64 r') ∧ w'.cell? ⟨b, off + k * 3 + 2, none⟩ = some (tx t') ∧ w'.cell? ⟨C, 0, none⟩ = some (.int .i64 x) ∧ w'.cell? ⟨C, 1, none⟩ = some (.int .i64 r) ∧ w'.cell? ⟨C, 2, none⟩ = some (tx t) ∧ Below w0.heap.size w0 w')
          (first | assumption | exact hkp.out _ _ hS (Below.drew (Below.refl _ _)) | exact hkp.out _ _ (by assumption) ((Below.refl _ _).alloc (Nat.le_refl _) _))
          (first
            | (go_at_call 27; refine (keepB (fun w' : World => w'.cell? ⟨b, off + k * 3, none⟩ = some (.int .i64 x') ∧ w'.cell? ⟨b, off + k * 3 + 1, none⟩ = some (.int .i64 r') ∧ w'.cell? ⟨b, off + k * 3 + 2, none⟩ = some (tx t') ∧ w'.cell? ⟨C, 0, none⟩ = some (.int .i64 x) ∧ w'.cell? ⟨C, 1, none⟩ = some (.int .i64 r) ∧ w'.cell? ⟨C, 2, none⟩ = some (tx t) ∧ Below w0.heap.size w0 w') hkp.out (hcmp _) (by assumption)).mono ?_; rintro e w9 ⟨rfl, kS⟩))
        all_goals go_wp2
        all_goals simp only [Exit.jump]
        all_goals go_ret
        all_goals exact ⟨by rw [HF.out]; rfl, GR.out.trans ((show (fun w' : World => w'.cell? ⟨b, off + k * 3, none⟩ = some (.int .i64 x') ∧ w'.cell? ⟨b, off + k * 3 + 1, none⟩ = some (.int .i64 r') ∧ w'.cell? ⟨b, off + k * 3 + 2, none⟩ = some (tx t') ∧ w'.cell? ⟨C, 0, none⟩ = some (.int .i64 x) ∧ w'.cell? ⟨C, 1, none⟩ = some (.int .i64 r) ∧ w'.cell? ⟨C, 2, none⟩ = some (tx t) ∧ Below w0.heap.size w0 w') _ by assumption).2.2.2.2.2.2.mono hsz0)⟩
    · obtain rfl : k = l.length := by omega
      have HF := Lib.hid (Vt.place_end (x, r, t) l (fun j hj => HN.out j hj hj))
      go_upto_region 2 with fail
      refine wp_region_held_drew (S := (fun w' : World => Below w0.heap.size w0 w')) (by kernel_rfl) ?_ (fun hHeld => ?_)
      · exact hb.drew
      refine takeW (i := 0) (v := ?_) rfl (by kernel_rfl) (by kernel_rfl) (by kernel_rfl) (fun _ _ _ h => h) (by rfl) ?_ (by assumption) ?_
      rotate_left
      focus (intro w hSw; (try dsimp only at hSw); go_simp; try (with_reducible rfl))
      simp only [Act.put, List.setIfInBounds_toArray, List.set_cons_zero, List.set_cons_succ]
      refine takeW (i := 1) (v := ?_) rfl (by kernel_rfl) (by kernel_rfl) (by kernel_rfl) (fun _ _ _ h => h) (by rfl) ?_ (by assumption) ?_
      rotate_left
      focus (intro w hSw; (try dsimp only at hSw); go_simp; try (with_reducible rfl))
      simp only [Act.put, List.setIfInBounds_toArray, List.set_cons_zero, List.set_cons_succ]
      refine takeW (i := 2) (v := ?_) rfl (by kernel_rfl) (by kernel_rfl) (by kernel_rfl) (fun _ _ _ h => h) (by rfl) ?_ (by assumption) ?_
      rotate_left
      focus (intro w hSw; (try dsimp only at hSw); go_simp; try (with_reducible rfl))
      simp only [Act.put, List.setIfInBounds_toArray, List.set_cons_zero, List.set_cons_succ]
      refine takeW (i := 3) (v := ?_) rfl (by kernel_rfl) (by kernel_rfl) (by kernel_rfl) (fun _ _ _ h => h) (by rfl) ?_ (by assumption) ?_
      rotate_left
      focus (intro w hSw; (try dsimp only at hSw); go_simp; try (with_reducible rfl))
      simp only [Act.put, List.setIfInBounds_toArray, List.set_cons_zero, List.set_cons_succ]
      refine takeW (i := 4) (v := ?_) rfl (by kernel_rfl) (by kernel_rfl) (by kernel_rfl) (fun _ _ _ h => h) (by rfl) ?_ (by assumption) ?_
      rotate_left
      focus (intro w hSw; (try dsimp only at hSw); go_simp; try (with_reducible rfl))
      simp only [Act.put, List.setIfInBounds_toArray, List.set_cons_zero, List.set_cons_succ]
      refine takeU (i := 5) rfl (by kernel_rfl) (by kernel_rfl) (by kernel_rfl) (fun _ _ _ h => h) (by rfl) (by assumption) ?_
      simp only [Act.put, List.setIfInBounds_toArray, List.set_cons_zero, List.set_cons_succ]
      refine takeU (i := 6) rfl (by kernel_rfl) (by kernel_rfl) (by kernel_rfl) (fun _ _ _ h => h) (by rfl) (by assumption) ?_
      simp only [Act.put, List.setIfInBounds_toArray, List.set_cons_zero, List.set_cons_succ]
      refine takeU (i := 7) rfl (by kernel_rfl) (by kernel_rfl) (by kernel_rfl) (fun _ _ _ h => h) (by rfl) (by assumption) ?_
      simp only [Act.put, List.setIfInBounds_toArray, List.set_cons_zero, List.set_cons_succ]
      refine takeU (i := 8) rfl (by kernel_rfl) (by kernel_rfl) (by kernel_rfl) (fun _ _ _ h => h) (by rfl) (by assumption) ?_
      simp only [Act.put, List.setIfInBounds_toArray, List.set_cons_zero, List.set_cons_succ]
      refine takeU (i := 9) rfl (by kernel_rfl) (by kernel_rfl) (by kernel_rfl) (fun _ _ _ h => h) (by rfl) (by assumption) ?_
      simp only [Act.put, List.setIfInBounds_toArray, List.set_cons_zero, List.set_cons_succ]
      refine takeU (i := 10) rfl (by kernel_rfl) (by kernel_rfl) (by kernel_rfl) (fun _ _ _ h => h) (by rfl) (by assumption) ?_
      simp only [Act.put, List.setIfInBounds_toArray, List.set_cons_zero, List.set_cons_succ]
      refine takeU (i := 11) rfl (by kernel_rfl) (by kernel_rfl) (by kernel_rfl) (fun _ _ _ h => h) (by rfl) (by assumption) ?_
      simp only [Act.put, List.setIfInBounds_toArray, List.set_cons_zero, List.set_cons_succ]
      refine takeW (i := 12) (v := ?_) rfl (by kernel_rfl) (by kernel_rfl) (by kernel_rfl) (fun _ _ _ h => h) (by rfl) ?_ (by assumption) ?_
      rotate_left
      focus (intro w hSw; (try dsimp only at hSw); go_simp; try (with_reducible rfl))
      simp only [Act.put, List.setIfInBounds_toArray, List.set_cons_zero, List.set_cons_succ]
      refine wpAnyH_done (by kernel_rfl) ?_ _
      go_wp2
      simp only [Exit.jump]
      go_ret
      exact ⟨by rw [HF.out]; rfl, GR.out.trans (hb.drew.mono hsz0)⟩
end Go.Proofs.Ytjngjmhhfhkbkaa
