/- GaussUnits: the walk. -/
import Derived.Test.YtbpbpmfipgbcjaaGaussIface
import Derived.Test.YtbpbpmfipgbcjaaGaussField2
import Derived.Test.YtbpbpmfipgbcjaaOpenEl
import Derived.Deep.DeepCutAuto
namespace Go.Proofs.Ytbpbpmfipgbcjaa
open Go.RowKit Go.ChangeShapes Go.WideShapes Go.ChangeAt

attribute [local go_sem] build_el build_el0 build_el1 build_el2 guard_el eqE_self
attribute [local go_sem ↓] eq_elE

set_option maxHeartbeats 4000000 in
theorem gaussUnits_0 (x : Ga.E) (hx : Ga.ok x = false) (W : World) :
    Calls Try.prog 12 #[elv x] W fun e W' => e = .returned (.bool true) ∧ Below W.heap.size W W' := by
  have HX := Lib.hid hx
  clear hx
  go_enter Try.func12, Try.ntmps12
  go_wp2_with fail
  refine (gaShown_any _).mono ?_
  rintro e w1 ⟨rfl, h1⟩
  have x0 := (EBox.new W x.1 x.2).kept h1
  obtain ⟨k0, k1, _, _⟩ := x0.facts
  have kb : Below W.heap.size W w1 := ((Below.refl _ W).alloc (Nat.le_refl _) _).trans (h1.mono (by simp))
  clear h1 x0
  have hk1 : ∀ a b : World, (fun w' : World => w'.cell? ⟨W.heap.size, 0, none⟩ = some (.int .i64 x.1) ∧ w'.cell? ⟨W.heap.size, 1, none⟩ = some (.int .i64 x.2) ∧ Below W.heap.size W w') a → Below a.heap.size a b → (fun w' : World => w'.cell? ⟨W.heap.size, 0, none⟩ = some (.int .i64 x.1) ∧ w'.cell? ⟨W.heap.size, 1, none⟩ = some (.int .i64 x.2) ∧ Below W.heap.size W w') b := fun a b ⟨k0, k1, kb⟩ h => ⟨below_cell h k0, below_cell h k1, grow_trans kb h⟩
  go_wp2_with fail
  refine (keepS (fun w' : World => w'.cell? ⟨W.heap.size, 0, none⟩ = some (.int .i64 x.1) ∧ w'.cell? ⟨W.heap.size, 1, none⟩ = some (.int .i64 x.2) ∧ Below W.heap.size W w') hk1 (s_may HX.out _) ⟨k0, k1, kb⟩).mono ?_
  clear k0 k1 kb
  rintro e w2 ⟨rfl, k0, k1, kb⟩
  go_wp2_with fail
  go_ret
  exact ⟨rfl, kb⟩
set_option maxHeartbeats 4000000 in
theorem gaussUnits_1 (x : Ga.E) (hx : Ga.ok x = true) (h0 : x = (0, 0)) (W : World) :
    Calls Try.prog 12 #[elv x] W fun e W' => e = .returned (.bool true) ∧ Below W.heap.size W W' := by
  have H1 := Lib.hid (Ga.one_mul hx)
  have H2 := Lib.hid (Ga.add_zero hx)
  have H3 := Lib.hid (Ga.sub_self hx)
  have H4 := Lib.hid (Ga.mul_zero hx)
  have HX := Lib.hid hx
  have e0 : eqE x.1 x.2 0 0 = true := eqE_eq (y := (0, 0)) h0
  clear hx h0
  go_enter Try.func12, Try.ntmps12
  go_wp2_with fail
  refine (gaShown_any _).mono ?_
  rintro e w1 ⟨rfl, h1⟩
  have x0 := (EBox.new W x.1 x.2).kept h1
  obtain ⟨k0, k1, _, _⟩ := x0.facts
  have kb : Below W.heap.size W w1 := ((Below.refl _ W).alloc (Nat.le_refl _) _).trans (h1.mono (by simp))
  clear h1 x0
  have hk1 : ∀ a b : World, (fun w' : World => w'.cell? ⟨W.heap.size, 0, none⟩ = some (.int .i64 x.1) ∧ w'.cell? ⟨W.heap.size, 1, none⟩ = some (.int .i64 x.2) ∧ Below W.heap.size W w') a → Below a.heap.size a b → (fun w' : World => w'.cell? ⟨W.heap.size, 0, none⟩ = some (.int .i64 x.1) ∧ w'.cell? ⟨W.heap.size, 1, none⟩ = some (.int .i64 x.2) ∧ Below W.heap.size W w') b := fun a b ⟨k0, k1, kb⟩ h => ⟨below_cell h k0, below_cell h k1, grow_trans kb h⟩
  go_wp2_with fail
  refine (keepS (fun w' : World => w'.cell? ⟨W.heap.size, 0, none⟩ = some (.int .i64 x.1) ∧ w'.cell? ⟨W.heap.size, 1, none⟩ = some (.int .i64 x.2) ∧ Below W.heap.size W w') hk1 (s_may HX.out _) ⟨k0, k1, kb⟩).mono ?_
  clear k0 k1 kb
  rintro e w2 ⟨rfl, k0, k1, kb⟩
  have gb10 : Below w2.heap.size w2 (w2.alloc (.cells #[.int .i64 0, .int .i64 0] 23)) := (Below.refl _ _).alloc (Nat.le_refl _) _
  replace k0 := below_cell gb10 k0
  replace k1 := below_cell gb10 k1
  replace kb := grow_trans kb gb10
  obtain ⟨k2, k3, _, _⟩ := (EBox.new w2 0 0).facts
  clear gb10
  have hk2 : ∀ a b : World, (fun w' : World => w'.cell? ⟨W.heap.size, 0, none⟩ = some (.int .i64 x.1) ∧ w'.cell? ⟨W.heap.size, 1, none⟩ = some (.int .i64 x.2) ∧ w'.cell? ⟨w2.heap.size, 0, none⟩ = some (.int .i64 0) ∧ w'.cell? ⟨w2.heap.size, 1, none⟩ = some (.int .i64 0) ∧ Below W.heap.size W w') a → Below a.heap.size a b → (fun w' : World => w'.cell? ⟨W.heap.size, 0, none⟩ = some (.int .i64 x.1) ∧ w'.cell? ⟨W.heap.size, 1, none⟩ = some (.int .i64 x.2) ∧ w'.cell? ⟨w2.heap.size, 0, none⟩ = some (.int .i64 0) ∧ w'.cell? ⟨w2.heap.size, 1, none⟩ = some (.int .i64 0) ∧ Below W.heap.size W w') b := fun a b ⟨k0, k1, k2, k3, kb⟩ h => ⟨below_cell h k0, below_cell h k1, below_cell h k2, below_cell h k3, grow_trans kb h⟩
  go_wp2_with fail
  go_upto_region 5 with fail
  go_cut [5] (fun s5 wx => s5 = .bool true ∧ (fun w' : World => w'.cell? ⟨W.heap.size, 0, none⟩ = some (.int .i64 x.1) ∧ w'.cell? ⟨W.heap.size, 1, none⟩ = some (.int .i64 x.2) ∧ w'.cell? ⟨w2.heap.size, 0, none⟩ = some (.int .i64 0) ∧ w'.cell? ⟨w2.heap.size, 1, none⟩ = some (.int .i64 0) ∧ Below W.heap.size W w') wx)
  case first =>
    go_region_held3 (fun w' : World => w'.cell? ⟨W.heap.size, 0, none⟩ = some (.int .i64 x.1) ∧ w'.cell? ⟨W.heap.size, 1, none⟩ = some (.int .i64 x.2) ∧ w'.cell? ⟨w2.heap.size, 0, none⟩ = some (.int .i64 0) ∧ w'.cell? ⟨w2.heap.size, 1, none⟩ = some (.int .i64 0) ∧ Below W.heap.size W w')
      (first | assumption | exact ⟨by assumption, by assumption, by assumption, by assumption, by first | assumption | exact Below.drew (by assumption)⟩)
      (first
        | (go_at_call 20; refine (keepS (fun w' : World => w'.cell? ⟨W.heap.size, 0, none⟩ = some (.int .i64 x.1) ∧ w'.cell? ⟨W.heap.size, 1, none⟩ = some (.int .i64 x.2) ∧ w'.cell? ⟨w2.heap.size, 0, none⟩ = some (.int .i64 0) ∧ w'.cell? ⟨w2.heap.size, 1, none⟩ = some (.int .i64 0) ∧ Below W.heap.size W w') hk2 (pmul_eq H1.out _) (by assumption)).mono ?_; rintro e w' ⟨rfl, kS⟩)
        | (go_at_call 16; refine (keepS (fun w' : World => w'.cell? ⟨W.heap.size, 0, none⟩ = some (.int .i64 x.1) ∧ w'.cell? ⟨W.heap.size, 1, none⟩ = some (.int .i64 x.2) ∧ w'.cell? ⟨w2.heap.size, 0, none⟩ = some (.int .i64 0) ∧ w'.cell? ⟨w2.heap.size, 1, none⟩ = some (.int .i64 0) ∧ Below W.heap.size W w') hk2 (padd_eq H2.out _) (by assumption)).mono ?_; rintro e w' ⟨rfl, kS⟩)
        | (go_at_call 18; refine (keepS (fun w' : World => w'.cell? ⟨W.heap.size, 0, none⟩ = some (.int .i64 x.1) ∧ w'.cell? ⟨W.heap.size, 1, none⟩ = some (.int .i64 x.2) ∧ w'.cell? ⟨w2.heap.size, 0, none⟩ = some (.int .i64 0) ∧ w'.cell? ⟨w2.heap.size, 1, none⟩ = some (.int .i64 0) ∧ Below W.heap.size W w') hk2 (psub_eq H3.out _) (by assumption)).mono ?_; rintro e w' ⟨rfl, kS⟩)
        | (go_at_call 20; refine (keepS (fun w' : World => w'.cell? ⟨W.heap.size, 0, none⟩ = some (.int .i64 x.1) ∧ w'.cell? ⟨W.heap.size, 1, none⟩ = some (.int .i64 x.2) ∧ w'.cell? ⟨w2.heap.size, 0, none⟩ = some (.int .i64 0) ∧ w'.cell? ⟨w2.heap.size, 1, none⟩ = some (.int .i64 0) ∧ Below W.heap.size W w') hk2 (pmul_eq H4.out _) (by assumption)).mono ?_; rintro e w' ⟨rfl, kS⟩))
    all_goals (go_wp2_with fail; go_meet; exact ⟨rfl, by assumption⟩)
  case rest =>
    clear k0 k1 k2 k3 kb
    obtain ⟨rfl, k0, k1, k2, k3, kb⟩ := hcut
    go_wp2_with fail
    go_ret
    exact ⟨rfl, kb⟩
set_option maxHeartbeats 4000000 in
theorem gaussUnits_2 (x : Ga.E) (hx : Ga.ok x = true) (h0 : x ≠ (0, 0)) (W : World) :
    Calls Try.prog 12 #[elv x] W fun e W' => e = .returned (.bool true) ∧ Below W.heap.size W W' := by
  have H1 := Lib.hid (Ga.one_mul hx)
  have H2 := Lib.hid (Ga.add_zero hx)
  have H3 := Lib.hid (Ga.sub_self hx)
  have H4 := Lib.hid (Ga.mul_zero hx)
  have HX := Lib.hid hx
  have e0 : eqE x.1 x.2 0 0 = false := eqE_ne (y := (0, 0)) h0
  have hii := Ga.inv_inv hx h0
  obtain ⟨⟨y, c⟩, hy'⟩ : ∃ w, Ga.inv x = w := ⟨_, rfl⟩
  rw [hy'] at hii
  obtain ⟨⟨u, d⟩, hu'⟩ : ∃ w, Ga.inv y = w := ⟨_, rfl⟩
  simp only at hii
  rw [hu'] at hii
  simp only at hii
  replace hii := hii.symm
  subst hii
  have HI := Lib.hid hy'
  have HJ := Lib.hid hu'
  clear hx h0 hy' hu'
  go_enter Try.func12, Try.ntmps12
  go_wp2_with fail
  refine (gaShown_any _).mono ?_
  rintro e w1 ⟨rfl, h1⟩
  have x0 := (EBox.new W x.1 x.2).kept h1
  obtain ⟨k0, k1, _, _⟩ := x0.facts
  have kb : Below W.heap.size W w1 := ((Below.refl _ W).alloc (Nat.le_refl _) _).trans (h1.mono (by simp))
  clear h1 x0
  have hk1 : ∀ a b : World, (fun w' : World => w'.cell? ⟨W.heap.size, 0, none⟩ = some (.int .i64 x.1) ∧ w'.cell? ⟨W.heap.size, 1, none⟩ = some (.int .i64 x.2) ∧ Below W.heap.size W w') a → Below a.heap.size a b → (fun w' : World => w'.cell? ⟨W.heap.size, 0, none⟩ = some (.int .i64 x.1) ∧ w'.cell? ⟨W.heap.size, 1, none⟩ = some (.int .i64 x.2) ∧ Below W.heap.size W w') b := fun a b ⟨k0, k1, kb⟩ h => ⟨below_cell h k0, below_cell h k1, grow_trans kb h⟩
  go_wp2_with fail
  refine (keepS (fun w' : World => w'.cell? ⟨W.heap.size, 0, none⟩ = some (.int .i64 x.1) ∧ w'.cell? ⟨W.heap.size, 1, none⟩ = some (.int .i64 x.2) ∧ Below W.heap.size W w') hk1 (s_may HX.out _) ⟨k0, k1, kb⟩).mono ?_
  clear k0 k1 kb
  rintro e w2 ⟨rfl, k0, k1, kb⟩
  have gb10 : Below w2.heap.size w2 (w2.alloc (.cells #[.int .i64 0, .int .i64 0] 23)) := (Below.refl _ _).alloc (Nat.le_refl _) _
  replace k0 := below_cell gb10 k0
  replace k1 := below_cell gb10 k1
  replace kb := grow_trans kb gb10
  obtain ⟨k2, k3, _, _⟩ := (EBox.new w2 0 0).facts
  clear gb10
  have hk2 : ∀ a b : World, (fun w' : World => w'.cell? ⟨W.heap.size, 0, none⟩ = some (.int .i64 x.1) ∧ w'.cell? ⟨W.heap.size, 1, none⟩ = some (.int .i64 x.2) ∧ w'.cell? ⟨w2.heap.size, 0, none⟩ = some (.int .i64 0) ∧ w'.cell? ⟨w2.heap.size, 1, none⟩ = some (.int .i64 0) ∧ Below W.heap.size W w') a → Below a.heap.size a b → (fun w' : World => w'.cell? ⟨W.heap.size, 0, none⟩ = some (.int .i64 x.1) ∧ w'.cell? ⟨W.heap.size, 1, none⟩ = some (.int .i64 x.2) ∧ w'.cell? ⟨w2.heap.size, 0, none⟩ = some (.int .i64 0) ∧ w'.cell? ⟨w2.heap.size, 1, none⟩ = some (.int .i64 0) ∧ Below W.heap.size W w') b := fun a b ⟨k0, k1, k2, k3, kb⟩ h => ⟨below_cell h k0, below_cell h k1, below_cell h k2, below_cell h k3, grow_trans kb h⟩
  go_wp2_with fail
  go_upto_region 5 with fail
  go_cut [5] (fun s5 wx => s5 = .bool true ∧ (fun w' : World => w'.cell? ⟨W.heap.size, 0, none⟩ = some (.int .i64 x.1) ∧ w'.cell? ⟨W.heap.size, 1, none⟩ = some (.int .i64 x.2) ∧ w'.cell? ⟨w2.heap.size, 0, none⟩ = some (.int .i64 0) ∧ w'.cell? ⟨w2.heap.size, 1, none⟩ = some (.int .i64 0) ∧ Below W.heap.size W w') wx)
  case first =>
    go_region_held3 (fun w' : World => w'.cell? ⟨W.heap.size, 0, none⟩ = some (.int .i64 x.1) ∧ w'.cell? ⟨W.heap.size, 1, none⟩ = some (.int .i64 x.2) ∧ w'.cell? ⟨w2.heap.size, 0, none⟩ = some (.int .i64 0) ∧ w'.cell? ⟨w2.heap.size, 1, none⟩ = some (.int .i64 0) ∧ Below W.heap.size W w')
      (first | assumption | exact ⟨by assumption, by assumption, by assumption, by assumption, by first | assumption | exact Below.drew (by assumption)⟩)
      (first
        | (go_at_call 20; refine (keepS (fun w' : World => w'.cell? ⟨W.heap.size, 0, none⟩ = some (.int .i64 x.1) ∧ w'.cell? ⟨W.heap.size, 1, none⟩ = some (.int .i64 x.2) ∧ w'.cell? ⟨w2.heap.size, 0, none⟩ = some (.int .i64 0) ∧ w'.cell? ⟨w2.heap.size, 1, none⟩ = some (.int .i64 0) ∧ Below W.heap.size W w') hk2 (pmul_eq H1.out _) (by assumption)).mono ?_; rintro e w' ⟨rfl, kS⟩)
        | (go_at_call 16; refine (keepS (fun w' : World => w'.cell? ⟨W.heap.size, 0, none⟩ = some (.int .i64 x.1) ∧ w'.cell? ⟨W.heap.size, 1, none⟩ = some (.int .i64 x.2) ∧ w'.cell? ⟨w2.heap.size, 0, none⟩ = some (.int .i64 0) ∧ w'.cell? ⟨w2.heap.size, 1, none⟩ = some (.int .i64 0) ∧ Below W.heap.size W w') hk2 (padd_eq H2.out _) (by assumption)).mono ?_; rintro e w' ⟨rfl, kS⟩)
        | (go_at_call 18; refine (keepS (fun w' : World => w'.cell? ⟨W.heap.size, 0, none⟩ = some (.int .i64 x.1) ∧ w'.cell? ⟨W.heap.size, 1, none⟩ = some (.int .i64 x.2) ∧ w'.cell? ⟨w2.heap.size, 0, none⟩ = some (.int .i64 0) ∧ w'.cell? ⟨w2.heap.size, 1, none⟩ = some (.int .i64 0) ∧ Below W.heap.size W w') hk2 (psub_eq H3.out _) (by assumption)).mono ?_; rintro e w' ⟨rfl, kS⟩)
        | (go_at_call 20; refine (keepS (fun w' : World => w'.cell? ⟨W.heap.size, 0, none⟩ = some (.int .i64 x.1) ∧ w'.cell? ⟨W.heap.size, 1, none⟩ = some (.int .i64 x.2) ∧ w'.cell? ⟨w2.heap.size, 0, none⟩ = some (.int .i64 0) ∧ w'.cell? ⟨w2.heap.size, 1, none⟩ = some (.int .i64 0) ∧ Below W.heap.size W w') hk2 (pmul_eq H4.out _) (by assumption)).mono ?_; rintro e w' ⟨rfl, kS⟩))
    all_goals (go_wp2_with fail; go_meet; exact ⟨rfl, by assumption⟩)
  case rest =>
    clear k0 k1 k2 k3 kb
    obtain ⟨rfl, k0, k1, k2, k3, kb⟩ := hcut
    go_wp2_with fail
    refine (keepS (fun w' : World => w'.cell? ⟨W.heap.size, 0, none⟩ = some (.int .i64 x.1) ∧ w'.cell? ⟨W.heap.size, 1, none⟩ = some (.int .i64 x.2) ∧ w'.cell? ⟨w2.heap.size, 0, none⟩ = some (.int .i64 0) ∧ w'.cell? ⟨w2.heap.size, 1, none⟩ = some (.int .i64 0) ∧ Below W.heap.size W w') hk2 (s_inv HI.out _) ⟨k0, k1, k2, k3, kb⟩).mono ?_
    clear k0 k1 k2 k3 kb
    rintro e w4 ⟨rfl, k0, k1, k2, k3, kb⟩
    have gb20 : Below w4.heap.size w4 (w4.alloc (.cells #[.int .i64 y.1, .int .i64 y.2] 23)) := (Below.refl _ _).alloc (Nat.le_refl _) _
    replace k0 := below_cell gb20 k0
    replace k1 := below_cell gb20 k1
    replace k2 := below_cell gb20 k2
    replace k3 := below_cell gb20 k3
    replace kb := grow_trans kb gb20
    obtain ⟨k4, k5, _, _⟩ := (EBox.new w4 y.1 y.2).facts
    clear gb20
    have hk3 : ∀ a b : World, (fun w' : World => w'.cell? ⟨W.heap.size, 0, none⟩ = some (.int .i64 x.1) ∧ w'.cell? ⟨W.heap.size, 1, none⟩ = some (.int .i64 x.2) ∧ w'.cell? ⟨w2.heap.size, 0, none⟩ = some (.int .i64 0) ∧ w'.cell? ⟨w2.heap.size, 1, none⟩ = some (.int .i64 0) ∧ w'.cell? ⟨w4.heap.size, 0, none⟩ = some (.int .i64 y.1) ∧ w'.cell? ⟨w4.heap.size, 1, none⟩ = some (.int .i64 y.2) ∧ Below W.heap.size W w') a → Below a.heap.size a b → (fun w' : World => w'.cell? ⟨W.heap.size, 0, none⟩ = some (.int .i64 x.1) ∧ w'.cell? ⟨W.heap.size, 1, none⟩ = some (.int .i64 x.2) ∧ w'.cell? ⟨w2.heap.size, 0, none⟩ = some (.int .i64 0) ∧ w'.cell? ⟨w2.heap.size, 1, none⟩ = some (.int .i64 0) ∧ w'.cell? ⟨w4.heap.size, 0, none⟩ = some (.int .i64 y.1) ∧ w'.cell? ⟨w4.heap.size, 1, none⟩ = some (.int .i64 y.2) ∧ Below W.heap.size W w') b := fun a b ⟨k0, k1, k2, k3, k4, k5, kb⟩ h => ⟨below_cell h k0, below_cell h k1, below_cell h k2, below_cell h k3, below_cell h k4, below_cell h k5, grow_trans kb h⟩
    go_wp2_with fail
    refine (keepS (fun w' : World => w'.cell? ⟨W.heap.size, 0, none⟩ = some (.int .i64 x.1) ∧ w'.cell? ⟨W.heap.size, 1, none⟩ = some (.int .i64 x.2) ∧ w'.cell? ⟨w2.heap.size, 0, none⟩ = some (.int .i64 0) ∧ w'.cell? ⟨w2.heap.size, 1, none⟩ = some (.int .i64 0) ∧ w'.cell? ⟨w4.heap.size, 0, none⟩ = some (.int .i64 y.1) ∧ w'.cell? ⟨w4.heap.size, 1, none⟩ = some (.int .i64 y.2) ∧ Below W.heap.size W w') hk3 (s_inv HJ.out _) ⟨k0, k1, k2, k3, k4, k5, kb⟩).mono ?_
    clear k0 k1 k2 k3 k4 k5 kb
    rintro e w5 ⟨rfl, k0, k1, k2, k3, k4, k5, kb⟩
    have gb30 : Below w5.heap.size w5 (w5.alloc (.cells #[.int .i64 x.1, .int .i64 x.2] 23)) := (Below.refl _ _).alloc (Nat.le_refl _) _
    replace k0 := below_cell gb30 k0
    replace k1 := below_cell gb30 k1
    replace k2 := below_cell gb30 k2
    replace k3 := below_cell gb30 k3
    replace k4 := below_cell gb30 k4
    replace k5 := below_cell gb30 k5
    replace kb := grow_trans kb gb30
    obtain ⟨k6, k7, _, _⟩ := (EBox.new w5 x.1 x.2).facts
    clear gb30
    have hk4 : ∀ a b : World, (fun w' : World => w'.cell? ⟨W.heap.size, 0, none⟩ = some (.int .i64 x.1) ∧ w'.cell? ⟨W.heap.size, 1, none⟩ = some (.int .i64 x.2) ∧ w'.cell? ⟨w2.heap.size, 0, none⟩ = some (.int .i64 0) ∧ w'.cell? ⟨w2.heap.size, 1, none⟩ = some (.int .i64 0) ∧ w'.cell? ⟨w4.heap.size, 0, none⟩ = some (.int .i64 y.1) ∧ w'.cell? ⟨w4.heap.size, 1, none⟩ = some (.int .i64 y.2) ∧ w'.cell? ⟨w5.heap.size, 0, none⟩ = some (.int .i64 x.1) ∧ w'.cell? ⟨w5.heap.size, 1, none⟩ = some (.int .i64 x.2) ∧ Below W.heap.size W w') a → Below a.heap.size a b → (fun w' : World => w'.cell? ⟨W.heap.size, 0, none⟩ = some (.int .i64 x.1) ∧ w'.cell? ⟨W.heap.size, 1, none⟩ = some (.int .i64 x.2) ∧ w'.cell? ⟨w2.heap.size, 0, none⟩ = some (.int .i64 0) ∧ w'.cell? ⟨w2.heap.size, 1, none⟩ = some (.int .i64 0) ∧ w'.cell? ⟨w4.heap.size, 0, none⟩ = some (.int .i64 y.1) ∧ w'.cell? ⟨w4.heap.size, 1, none⟩ = some (.int .i64 y.2) ∧ w'.cell? ⟨w5.heap.size, 0, none⟩ = some (.int .i64 x.1) ∧ w'.cell? ⟨w5.heap.size, 1, none⟩ = some (.int .i64 x.2) ∧ Below W.heap.size W w') b := fun a b ⟨k0, k1, k2, k3, k4, k5, k6, k7, kb⟩ h => ⟨below_cell h k0, below_cell h k1, below_cell h k2, below_cell h k3, below_cell h k4, below_cell h k5, below_cell h k6, below_cell h k7, grow_trans kb h⟩
    go_wp2_with fail
    go_ret
    exact ⟨rfl, kb⟩
theorem gaussUnits_core (x : Ga.E) (W : World) :
    Calls Try.prog 12 #[elv x] W fun e W' => e = .returned (.bool true) ∧ Below W.heap.size W W' := by
  cases hx : Ga.ok x with
  | false => exact gaussUnits_0 x hx W
  | true =>
    by_cases h0 : x = (0, 0)
    · exact gaussUnits_1 x hx h0 W
    · exact gaussUnits_2 x hx h0 W

theorem gaussUnits_walk {H : Type} (enc : TypeId × Value → H) (W : World) (base : Nat) (v0 : Value) (d0 : DataW H) (p0 : List MemPlace)
    (h0 : DataW.Trod enc Try.prog W 0 (fun _ => true) true 23 v0 d0 p0) (o0 : Value.okWide Try.prog W .any base 23 v0)
    (_hsz : (DataW.weightsEach Try.prog [23] [d0]).all (· ≤ reachBytes) = true) :
    Calls Try.prog 12 #[v0] W fun e W' => e = .returned (.bool true) ∧ Below W.heap.size W W' := by
  obtain ⟨a0, b0, rfl⟩ := open_elem o0 h0
  exact gaussUnits_core (a0, b0) W
end Go.Proofs.Ytbpbpmfipgbcjaa
