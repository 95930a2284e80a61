/- GaussField: the walk. -/
import Derived.Test.YtbpbpmfipgbcjaaGaussIface
import Derived.Test.YtbpbpmfipgbcjaaGaussField2
import Derived.Test.YtbpbpmfipgbcjaaOpenEl
import Derived.Deep.DeepCutAuto
namespace Go.Proofs.Ytbpbpmfipgbcjaa
open Go.RowKit Go.ChangeShapes Go.WideShapes Go.ChangeAt

attribute [local go_sem] build_el build_el0 build_el1 build_el2 guard_el eqE_self
attribute [local go_sem ↓] eq_elE

set_option maxHeartbeats 4000000 in
set_option maxRecDepth 100000 in
theorem gaussField_0 (x y : Ga.E) (hx : Ga.ok x = false) (W : World) :
    Calls Try.prog 8 #[elv x, elv y] W fun e W' => e = .returned (.bool true) ∧ Below W.heap.size W W' := by
  have HX := Lib.hid hx
  clear hx
  go_enter Try.func8, Try.ntmps8
  go_wp2_with fail
  refine (gaShown_any _).mono ?_
  rintro e w1 ⟨rfl, h1⟩
  have x0 := ((EBox.new W x.1 x.2).alloc (.cells #[.int .i64 y.1, .int .i64 y.2] 23)).kept h1
  obtain ⟨k0, k1, _, _⟩ := x0.facts
  have x1 := (EBox.new (W.alloc (.cells #[.int .i64 x.1, .int .i64 x.2] 23)) y.1 y.2).kept h1
  simp only [World.size_alloc] at x1
  obtain ⟨k2, k3, _, _⟩ := x1.facts
  have kb : Below W.heap.size W w1 := (((Below.refl _ W).alloc (Nat.le_refl _) _).alloc (by simp) _).trans (h1.mono (by simp; omega))
  clear h1 x0 x1
  have hk1 := Lib.hid (show ∀ a b : World, (fun w' : World => w'.cell? ⟨W.heap.size, 0, none⟩ = some (.int .i64 x.1) ∧ w'.cell? ⟨W.heap.size, 1, none⟩ = some (.int .i64 x.2) ∧ w'.cell? ⟨W.heap.size + 1, 0, none⟩ = some (.int .i64 y.1) ∧ w'.cell? ⟨W.heap.size + 1, 1, none⟩ = some (.int .i64 y.2) ∧ Below W.heap.size W w') a → Below a.heap.size a b → (fun w' : World => w'.cell? ⟨W.heap.size, 0, none⟩ = some (.int .i64 x.1) ∧ w'.cell? ⟨W.heap.size, 1, none⟩ = some (.int .i64 x.2) ∧ w'.cell? ⟨W.heap.size + 1, 0, none⟩ = some (.int .i64 y.1) ∧ w'.cell? ⟨W.heap.size + 1, 1, none⟩ = some (.int .i64 y.2) ∧ Below W.heap.size W w') b from fun a b ⟨k0, k1, k2, k3, kb⟩ h => ⟨below_cell h k0, below_cell h k1, below_cell h k2, below_cell h k3, grow_trans kb h⟩)
  go_wp2_with fail
  refine (keepS (fun w' : World => w'.cell? ⟨W.heap.size, 0, none⟩ = some (.int .i64 x.1) ∧ w'.cell? ⟨W.heap.size, 1, none⟩ = some (.int .i64 x.2) ∧ w'.cell? ⟨W.heap.size + 1, 0, none⟩ = some (.int .i64 y.1) ∧ w'.cell? ⟨W.heap.size + 1, 1, none⟩ = some (.int .i64 y.2) ∧ Below W.heap.size W w') hk1.out (s_may HX.out _) ⟨k0, k1, k2, k3, kb⟩).mono ?_
  clear k0 k1 k2 k3 kb
  rintro e w2 ⟨rfl, k0, k1, k2, k3, kb⟩
  go_wp2_with fail
  go_ret
  exact ⟨rfl, kb⟩
set_option maxHeartbeats 4000000 in
set_option maxRecDepth 100000 in
theorem gaussField_1 (x y : Ga.E) (hx : Ga.ok x = true) (hy : Ga.ok y = false) (W : World) :
    Calls Try.prog 8 #[elv x, elv y] W fun e W' => e = .returned (.bool true) ∧ Below W.heap.size W W' := by
  have HX := Lib.hid hx
  have HY := Lib.hid hy
  clear hx hy
  go_enter Try.func8, Try.ntmps8
  go_wp2_with fail
  refine (gaShown_any _).mono ?_
  rintro e w1 ⟨rfl, h1⟩
  have x0 := ((EBox.new W x.1 x.2).alloc (.cells #[.int .i64 y.1, .int .i64 y.2] 23)).kept h1
  obtain ⟨k0, k1, _, _⟩ := x0.facts
  have x1 := (EBox.new (W.alloc (.cells #[.int .i64 x.1, .int .i64 x.2] 23)) y.1 y.2).kept h1
  simp only [World.size_alloc] at x1
  obtain ⟨k2, k3, _, _⟩ := x1.facts
  have kb : Below W.heap.size W w1 := (((Below.refl _ W).alloc (Nat.le_refl _) _).alloc (by simp) _).trans (h1.mono (by simp; omega))
  clear h1 x0 x1
  have hk1 := Lib.hid (show ∀ a b : World, (fun w' : World => w'.cell? ⟨W.heap.size, 0, none⟩ = some (.int .i64 x.1) ∧ w'.cell? ⟨W.heap.size, 1, none⟩ = some (.int .i64 x.2) ∧ w'.cell? ⟨W.heap.size + 1, 0, none⟩ = some (.int .i64 y.1) ∧ w'.cell? ⟨W.heap.size + 1, 1, none⟩ = some (.int .i64 y.2) ∧ Below W.heap.size W w') a → Below a.heap.size a b → (fun w' : World => w'.cell? ⟨W.heap.size, 0, none⟩ = some (.int .i64 x.1) ∧ w'.cell? ⟨W.heap.size, 1, none⟩ = some (.int .i64 x.2) ∧ w'.cell? ⟨W.heap.size + 1, 0, none⟩ = some (.int .i64 y.1) ∧ w'.cell? ⟨W.heap.size + 1, 1, none⟩ = some (.int .i64 y.2) ∧ Below W.heap.size W w') b from fun a b ⟨k0, k1, k2, k3, kb⟩ h => ⟨below_cell h k0, below_cell h k1, below_cell h k2, below_cell h k3, grow_trans kb h⟩)
  go_wp2_with fail
  refine (keepS (fun w' : World => w'.cell? ⟨W.heap.size, 0, none⟩ = some (.int .i64 x.1) ∧ w'.cell? ⟨W.heap.size, 1, none⟩ = some (.int .i64 x.2) ∧ w'.cell? ⟨W.heap.size + 1, 0, none⟩ = some (.int .i64 y.1) ∧ w'.cell? ⟨W.heap.size + 1, 1, none⟩ = some (.int .i64 y.2) ∧ Below W.heap.size W w') hk1.out (s_may HX.out _) ⟨k0, k1, k2, k3, kb⟩).mono ?_
  clear k0 k1 k2 k3 kb
  rintro e w2 ⟨rfl, k0, k1, k2, k3, kb⟩
  go_wp2_with fail
  refine (keepS (fun w' : World => w'.cell? ⟨W.heap.size, 0, none⟩ = some (.int .i64 x.1) ∧ w'.cell? ⟨W.heap.size, 1, none⟩ = some (.int .i64 x.2) ∧ w'.cell? ⟨W.heap.size + 1, 0, none⟩ = some (.int .i64 y.1) ∧ w'.cell? ⟨W.heap.size + 1, 1, none⟩ = some (.int .i64 y.2) ∧ Below W.heap.size W w') hk1.out (s_may HY.out _) ⟨k0, k1, k2, k3, kb⟩).mono ?_
  clear k0 k1 k2 k3 kb
  rintro e w3 ⟨rfl, k0, k1, k2, k3, kb⟩
  go_wp2_with fail
  go_ret
  exact ⟨rfl, kb⟩
set_option maxHeartbeats 4000000 in
set_option maxRecDepth 100000 in
theorem gaussField_true_false (x y : Ga.E) (hx : Ga.ok x = true) (hy : Ga.ok y = true) (h0 : x ≠ (0, 0)) (hi : Ga.mul x y = (1, 0) ∧ y = (Ga.inv x).1) (hj : Ga.mul x y ≠ (0, 0) ∧ y ≠ (0, 0)) (W : World) :
    Calls Try.prog 8 #[elv x, elv y] W fun e W' => e = .returned (.bool true) ∧ Below W.heap.size W W' := by
  have hi' := Ga.inv_mul hx h0
  obtain ⟨⟨z, c⟩, hz'⟩ : ∃ z, Ga.inv x = z := ⟨_, rfl⟩
  rw [hz'] at hi' hi
  obtain ⟨hzo, hc', hm'⟩ := hi'
  simp only at hc' hm' hi
  subst hc'
  obtain ⟨mf, hmf'⟩ : ∃ f : Ga.E → Ga.E → Ga.E, ∀ a b, Ga.mul a b = f a b := ⟨Ga.mul, fun _ _ => rfl⟩
  have HMF := Lib.hid hmf'
  rw [hmf'] at hi hj hm'
  have HX := Lib.hid hx
  have HY := Lib.hid hy
  have HZ := Lib.hid hz'
  have em : eqE (mf x z).1 (mf x z).2 1 0 = true := eqE_eq (y := (1, 0)) hm'
  have e0 : eqE x.1 x.2 0 0 = false := eqE_ne (y := (0, 0)) h0
  have e1 : eqE (mf x y).1 (mf x y).2 1 0 = true := eqE_eq (y := (1, 0)) hi.1
  have e2 : eqE y.1 y.2 z.1 z.2 = true := eqE_eq hi.2
  have e3 : eqE (mf x y).1 (mf x y).2 0 0 = false := eqE_ne (y := (0, 0)) hj.1
  have e4 : eqE y.1 y.2 0 0 = false := eqE_ne (y := (0, 0)) hj.2
  clear hx hy hz' hm' hmf' hzo h0 hi hj
  go_enter Try.func8, Try.ntmps8
  go_wp2_with fail
  refine (gaShown_any _).mono ?_
  rintro e w1 ⟨rfl, h1⟩
  have x0 := ((EBox.new W x.1 x.2).alloc (.cells #[.int .i64 y.1, .int .i64 y.2] 23)).kept h1
  obtain ⟨k0, k1, _, _⟩ := x0.facts
  have x1 := (EBox.new (W.alloc (.cells #[.int .i64 x.1, .int .i64 x.2] 23)) y.1 y.2).kept h1
  simp only [World.size_alloc] at x1
  obtain ⟨k2, k3, _, _⟩ := x1.facts
  have kb : Below W.heap.size W w1 := (((Below.refl _ W).alloc (Nat.le_refl _) _).alloc (by simp) _).trans (h1.mono (by simp; omega))
  clear h1 x0 x1
  have hk1 := Lib.hid (show ∀ a b : World, (fun w' : World => w'.cell? ⟨W.heap.size, 0, none⟩ = some (.int .i64 x.1) ∧ w'.cell? ⟨W.heap.size, 1, none⟩ = some (.int .i64 x.2) ∧ w'.cell? ⟨W.heap.size + 1, 0, none⟩ = some (.int .i64 y.1) ∧ w'.cell? ⟨W.heap.size + 1, 1, none⟩ = some (.int .i64 y.2) ∧ Below W.heap.size W w') a → Below a.heap.size a b → (fun w' : World => w'.cell? ⟨W.heap.size, 0, none⟩ = some (.int .i64 x.1) ∧ w'.cell? ⟨W.heap.size, 1, none⟩ = some (.int .i64 x.2) ∧ w'.cell? ⟨W.heap.size + 1, 0, none⟩ = some (.int .i64 y.1) ∧ w'.cell? ⟨W.heap.size + 1, 1, none⟩ = some (.int .i64 y.2) ∧ Below W.heap.size W w') b from fun a b ⟨k0, k1, k2, k3, kb⟩ h => ⟨below_cell h k0, below_cell h k1, below_cell h k2, below_cell h k3, grow_trans kb h⟩)
  go_wp2_with fail
  refine (keepS (fun w' : World => w'.cell? ⟨W.heap.size, 0, none⟩ = some (.int .i64 x.1) ∧ w'.cell? ⟨W.heap.size, 1, none⟩ = some (.int .i64 x.2) ∧ w'.cell? ⟨W.heap.size + 1, 0, none⟩ = some (.int .i64 y.1) ∧ w'.cell? ⟨W.heap.size + 1, 1, none⟩ = some (.int .i64 y.2) ∧ Below W.heap.size W w') hk1.out (s_may HX.out _) ⟨k0, k1, k2, k3, kb⟩).mono ?_
  clear k0 k1 k2 k3 kb
  rintro e w2 ⟨rfl, k0, k1, k2, k3, kb⟩
  go_wp2_with fail
  refine (keepS (fun w' : World => w'.cell? ⟨W.heap.size, 0, none⟩ = some (.int .i64 x.1) ∧ w'.cell? ⟨W.heap.size, 1, none⟩ = some (.int .i64 x.2) ∧ w'.cell? ⟨W.heap.size + 1, 0, none⟩ = some (.int .i64 y.1) ∧ w'.cell? ⟨W.heap.size + 1, 1, none⟩ = some (.int .i64 y.2) ∧ Below W.heap.size W w') hk1.out (s_may HY.out _) ⟨k0, k1, k2, k3, kb⟩).mono ?_
  clear k0 k1 k2 k3 kb
  rintro e w3 ⟨rfl, k0, k1, k2, k3, kb⟩
  have gb10 : Below w3.heap.size w3 (w3.alloc (.cells #[.int .i64 1, .int .i64 0] 23)) := (Below.refl _ _).alloc (Nat.le_refl _) _
  replace k0 := below_cell gb10 k0
  replace k1 := below_cell gb10 k1
  replace k2 := below_cell gb10 k2
  replace k3 := below_cell gb10 k3
  replace kb := grow_trans kb gb10
  obtain ⟨k4, k5, _, _⟩ := (EBox.new w3 1 0).facts
  clear gb10
  obtain ⟨C3, hC3⟩ : ∃ C, w3.heap.size = C := ⟨_, rfl⟩
  rw [hC3] at k4 k5
  have hk2 := Lib.hid (show ∀ a b : World, (fun w' : World => w'.cell? ⟨W.heap.size, 0, none⟩ = some (.int .i64 x.1) ∧ w'.cell? ⟨W.heap.size, 1, none⟩ = some (.int .i64 x.2) ∧ w'.cell? ⟨W.heap.size + 1, 0, none⟩ = some (.int .i64 y.1) ∧ w'.cell? ⟨W.heap.size + 1, 1, none⟩ = some (.int .i64 y.2) ∧ w'.cell? ⟨C3, 0, none⟩ = some (.int .i64 1) ∧ w'.cell? ⟨C3, 1, none⟩ = some (.int .i64 0) ∧ Below W.heap.size W w') a → Below a.heap.size a b → (fun w' : World => w'.cell? ⟨W.heap.size, 0, none⟩ = some (.int .i64 x.1) ∧ w'.cell? ⟨W.heap.size, 1, none⟩ = some (.int .i64 x.2) ∧ w'.cell? ⟨W.heap.size + 1, 0, none⟩ = some (.int .i64 y.1) ∧ w'.cell? ⟨W.heap.size + 1, 1, none⟩ = some (.int .i64 y.2) ∧ w'.cell? ⟨C3, 0, none⟩ = some (.int .i64 1) ∧ w'.cell? ⟨C3, 1, none⟩ = some (.int .i64 0) ∧ Below W.heap.size W w') b from fun a b ⟨k0, k1, k2, k3, k4, k5, kb⟩ h => ⟨below_cell h k0, below_cell h k1, below_cell h k2, below_cell h k3, below_cell h k4, below_cell h k5, grow_trans kb h⟩)
  have gb21 : Below (w3.alloc (.cells #[.int .i64 1, .int .i64 0] 23)).heap.size (w3.alloc (.cells #[.int .i64 1, .int .i64 0] 23)) ((w3.alloc (.cells #[.int .i64 1, .int .i64 0] 23)).alloc (.cells #[.int .i64 0, .int .i64 0] 23)) := (Below.refl _ _).alloc (Nat.le_refl _) _
  replace k0 := below_cell gb21 k0
  replace k1 := below_cell gb21 k1
  replace k2 := below_cell gb21 k2
  replace k3 := below_cell gb21 k3
  replace k4 := below_cell gb21 k4
  replace k5 := below_cell gb21 k5
  replace kb := grow_trans kb gb21
  obtain ⟨k6, k7, _, _⟩ := (EBox.new (w3.alloc (.cells #[.int .i64 1, .int .i64 0] 23)) 0 0).facts
  clear gb21
  simp only [World.size_alloc] at k6 k7
  rw [hC3] at k6 k7
  have hk3 := Lib.hid (show ∀ a b : World, (fun w' : World => w'.cell? ⟨W.heap.size, 0, none⟩ = some (.int .i64 x.1) ∧ w'.cell? ⟨W.heap.size, 1, none⟩ = some (.int .i64 x.2) ∧ w'.cell? ⟨W.heap.size + 1, 0, none⟩ = some (.int .i64 y.1) ∧ w'.cell? ⟨W.heap.size + 1, 1, none⟩ = some (.int .i64 y.2) ∧ w'.cell? ⟨C3, 0, none⟩ = some (.int .i64 1) ∧ w'.cell? ⟨C3, 1, none⟩ = some (.int .i64 0) ∧ w'.cell? ⟨C3 + 1, 0, none⟩ = some (.int .i64 0) ∧ w'.cell? ⟨C3 + 1, 1, none⟩ = some (.int .i64 0) ∧ Below W.heap.size W w') a → Below a.heap.size a b → (fun w' : World => w'.cell? ⟨W.heap.size, 0, none⟩ = some (.int .i64 x.1) ∧ w'.cell? ⟨W.heap.size, 1, none⟩ = some (.int .i64 x.2) ∧ w'.cell? ⟨W.heap.size + 1, 0, none⟩ = some (.int .i64 y.1) ∧ w'.cell? ⟨W.heap.size + 1, 1, none⟩ = some (.int .i64 y.2) ∧ w'.cell? ⟨C3, 0, none⟩ = some (.int .i64 1) ∧ w'.cell? ⟨C3, 1, none⟩ = some (.int .i64 0) ∧ w'.cell? ⟨C3 + 1, 0, none⟩ = some (.int .i64 0) ∧ w'.cell? ⟨C3 + 1, 1, none⟩ = some (.int .i64 0) ∧ Below W.heap.size W w') b from fun a b ⟨k0, k1, k2, k3, k4, k5, k6, k7, kb⟩ h => ⟨below_cell h k0, below_cell h k1, below_cell h k2, below_cell h k3, below_cell h k4, below_cell h k5, below_cell h k6, below_cell h k7, grow_trans kb h⟩)
  go_wp2_with fail
  refine (keepS (fun w' : World => w'.cell? ⟨W.heap.size, 0, none⟩ = some (.int .i64 x.1) ∧ w'.cell? ⟨W.heap.size, 1, none⟩ = some (.int .i64 x.2) ∧ w'.cell? ⟨W.heap.size + 1, 0, none⟩ = some (.int .i64 y.1) ∧ w'.cell? ⟨W.heap.size + 1, 1, none⟩ = some (.int .i64 y.2) ∧ w'.cell? ⟨C3, 0, none⟩ = some (.int .i64 1) ∧ w'.cell? ⟨C3, 1, none⟩ = some (.int .i64 0) ∧ w'.cell? ⟨C3 + 1, 0, none⟩ = some (.int .i64 0) ∧ w'.cell? ⟨C3 + 1, 1, none⟩ = some (.int .i64 0) ∧ Below W.heap.size W w') hk3.out (s_inv HZ.out _) ⟨k0, k1, k2, k3, k4, k5, k6, k7, kb⟩).mono ?_
  clear k0 k1 k2 k3 k4 k5 k6 k7 kb
  rintro e w4 ⟨rfl, k0, k1, k2, k3, k4, k5, k6, k7, kb⟩
  have gb30 : Below w4.heap.size w4 (w4.alloc (.cells #[.int .i64 z.1, .int .i64 z.2] 23)) := (Below.refl _ _).alloc (Nat.le_refl _) _
  replace k0 := below_cell gb30 k0
  replace k1 := below_cell gb30 k1
  replace k2 := below_cell gb30 k2
  replace k3 := below_cell gb30 k3
  replace k4 := below_cell gb30 k4
  replace k5 := below_cell gb30 k5
  replace k6 := below_cell gb30 k6
  replace k7 := below_cell gb30 k7
  replace kb := grow_trans kb gb30
  obtain ⟨k8, k9, _, _⟩ := (EBox.new w4 z.1 z.2).facts
  clear gb30
  obtain ⟨C4, hC4⟩ : ∃ C, w4.heap.size = C := ⟨_, rfl⟩
  rw [hC4] at k8 k9
  have hk4 := Lib.hid (show ∀ a b : World, (fun w' : World => w'.cell? ⟨W.heap.size, 0, none⟩ = some (.int .i64 x.1) ∧ w'.cell? ⟨W.heap.size, 1, none⟩ = some (.int .i64 x.2) ∧ w'.cell? ⟨W.heap.size + 1, 0, none⟩ = some (.int .i64 y.1) ∧ w'.cell? ⟨W.heap.size + 1, 1, none⟩ = some (.int .i64 y.2) ∧ w'.cell? ⟨C3, 0, none⟩ = some (.int .i64 1) ∧ w'.cell? ⟨C3, 1, none⟩ = some (.int .i64 0) ∧ w'.cell? ⟨C3 + 1, 0, none⟩ = some (.int .i64 0) ∧ w'.cell? ⟨C3 + 1, 1, none⟩ = some (.int .i64 0) ∧ w'.cell? ⟨C4, 0, none⟩ = some (.int .i64 z.1) ∧ w'.cell? ⟨C4, 1, none⟩ = some (.int .i64 z.2) ∧ Below W.heap.size W w') a → Below a.heap.size a b → (fun w' : World => w'.cell? ⟨W.heap.size, 0, none⟩ = some (.int .i64 x.1) ∧ w'.cell? ⟨W.heap.size, 1, none⟩ = some (.int .i64 x.2) ∧ w'.cell? ⟨W.heap.size + 1, 0, none⟩ = some (.int .i64 y.1) ∧ w'.cell? ⟨W.heap.size + 1, 1, none⟩ = some (.int .i64 y.2) ∧ w'.cell? ⟨C3, 0, none⟩ = some (.int .i64 1) ∧ w'.cell? ⟨C3, 1, none⟩ = some (.int .i64 0) ∧ w'.cell? ⟨C3 + 1, 0, none⟩ = some (.int .i64 0) ∧ w'.cell? ⟨C3 + 1, 1, none⟩ = some (.int .i64 0) ∧ w'.cell? ⟨C4, 0, none⟩ = some (.int .i64 z.1) ∧ w'.cell? ⟨C4, 1, none⟩ = some (.int .i64 z.2) ∧ Below W.heap.size W w') b from fun a b ⟨k0, k1, k2, k3, k4, k5, k6, k7, k8, k9, kb⟩ h => ⟨below_cell h k0, below_cell h k1, below_cell h k2, below_cell h k3, below_cell h k4, below_cell h k5, below_cell h k6, below_cell h k7, below_cell h k8, below_cell h k9, grow_trans kb h⟩)
  go_wp2_with fail
  go_upto_region 9 with fail
  go_cut [10] (fun s10 wx => s10 = .bool true ∧ (fun w' : World => w'.cell? ⟨W.heap.size, 0, none⟩ = some (.int .i64 x.1) ∧ w'.cell? ⟨W.heap.size, 1, none⟩ = some (.int .i64 x.2) ∧ w'.cell? ⟨W.heap.size + 1, 0, none⟩ = some (.int .i64 y.1) ∧ w'.cell? ⟨W.heap.size + 1, 1, none⟩ = some (.int .i64 y.2) ∧ w'.cell? ⟨C3, 0, none⟩ = some (.int .i64 1) ∧ w'.cell? ⟨C3, 1, none⟩ = some (.int .i64 0) ∧ w'.cell? ⟨C3 + 1, 0, none⟩ = some (.int .i64 0) ∧ w'.cell? ⟨C3 + 1, 1, none⟩ = some (.int .i64 0) ∧ w'.cell? ⟨C4, 0, none⟩ = some (.int .i64 z.1) ∧ w'.cell? ⟨C4, 1, none⟩ = some (.int .i64 z.2) ∧ Below W.heap.size W w') wx)
  case first =>
    go_region_held3 (fun w' : World => w'.cell? ⟨W.heap.size, 0, none⟩ = some (.int .i64 x.1) ∧ w'.cell? ⟨W.heap.size, 1, none⟩ = some (.int .i64 x.2) ∧ w'.cell? ⟨W.heap.size + 1, 0, none⟩ = some (.int .i64 y.1) ∧ w'.cell? ⟨W.heap.size + 1, 1, none⟩ = some (.int .i64 y.2) ∧ w'.cell? ⟨C3, 0, none⟩ = some (.int .i64 1) ∧ w'.cell? ⟨C3, 1, none⟩ = some (.int .i64 0) ∧ w'.cell? ⟨C3 + 1, 0, none⟩ = some (.int .i64 0) ∧ w'.cell? ⟨C3 + 1, 1, none⟩ = some (.int .i64 0) ∧ w'.cell? ⟨C4, 0, none⟩ = some (.int .i64 z.1) ∧ w'.cell? ⟨C4, 1, none⟩ = some (.int .i64 z.2) ∧ Below W.heap.size W w')
      (first | assumption | exact ⟨by assumption, by assumption, by assumption, by assumption, by assumption, by assumption, by assumption, by assumption, by assumption, by assumption, by first | assumption | exact Below.drew (by assumption)⟩)
      (first
        | (go_at_call 20; refine (keepS (fun w' : World => w'.cell? ⟨W.heap.size, 0, none⟩ = some (.int .i64 x.1) ∧ w'.cell? ⟨W.heap.size, 1, none⟩ = some (.int .i64 x.2) ∧ w'.cell? ⟨W.heap.size + 1, 0, none⟩ = some (.int .i64 y.1) ∧ w'.cell? ⟨W.heap.size + 1, 1, none⟩ = some (.int .i64 y.2) ∧ w'.cell? ⟨C3, 0, none⟩ = some (.int .i64 1) ∧ w'.cell? ⟨C3, 1, none⟩ = some (.int .i64 0) ∧ w'.cell? ⟨C3 + 1, 0, none⟩ = some (.int .i64 0) ∧ w'.cell? ⟨C3 + 1, 1, none⟩ = some (.int .i64 0) ∧ w'.cell? ⟨C4, 0, none⟩ = some (.int .i64 z.1) ∧ w'.cell? ⟨C4, 1, none⟩ = some (.int .i64 z.2) ∧ Below W.heap.size W w') hk4.out (pmul_eq (HMF.out _ _) _) (by assumption)).mono ?_; rintro e w' ⟨rfl, kS⟩))
    all_goals (go_wp2_with fail; go_meet; exact ⟨rfl, by assumption⟩)
  case rest =>
    clear k0 k1 k2 k3 k4 k5 k6 k7 k8 k9 kb
    obtain ⟨rfl, k0, k1, k2, k3, k4, k5, k6, k7, k8, k9, kb⟩ := hcut
    go_wp2_with fail
    go_region_held3 (fun w' : World => w'.cell? ⟨W.heap.size, 0, none⟩ = some (.int .i64 x.1) ∧ w'.cell? ⟨W.heap.size, 1, none⟩ = some (.int .i64 x.2) ∧ w'.cell? ⟨W.heap.size + 1, 0, none⟩ = some (.int .i64 y.1) ∧ w'.cell? ⟨W.heap.size + 1, 1, none⟩ = some (.int .i64 y.2) ∧ w'.cell? ⟨C3, 0, none⟩ = some (.int .i64 1) ∧ w'.cell? ⟨C3, 1, none⟩ = some (.int .i64 0) ∧ w'.cell? ⟨C3 + 1, 0, none⟩ = some (.int .i64 0) ∧ w'.cell? ⟨C3 + 1, 1, none⟩ = some (.int .i64 0) ∧ w'.cell? ⟨C4, 0, none⟩ = some (.int .i64 z.1) ∧ w'.cell? ⟨C4, 1, none⟩ = some (.int .i64 z.2) ∧ Below W.heap.size W w')
      (first | assumption | exact ⟨by assumption, by assumption, by assumption, by assumption, by assumption, by assumption, by assumption, by assumption, by assumption, by assumption, by first | assumption | exact Below.drew (by assumption)⟩)
      (first
        | (go_at_call 20; refine (keepS (fun w' : World => w'.cell? ⟨W.heap.size, 0, none⟩ = some (.int .i64 x.1) ∧ w'.cell? ⟨W.heap.size, 1, none⟩ = some (.int .i64 x.2) ∧ w'.cell? ⟨W.heap.size + 1, 0, none⟩ = some (.int .i64 y.1) ∧ w'.cell? ⟨W.heap.size + 1, 1, none⟩ = some (.int .i64 y.2) ∧ w'.cell? ⟨C3, 0, none⟩ = some (.int .i64 1) ∧ w'.cell? ⟨C3, 1, none⟩ = some (.int .i64 0) ∧ w'.cell? ⟨C3 + 1, 0, none⟩ = some (.int .i64 0) ∧ w'.cell? ⟨C3 + 1, 1, none⟩ = some (.int .i64 0) ∧ w'.cell? ⟨C4, 0, none⟩ = some (.int .i64 z.1) ∧ w'.cell? ⟨C4, 1, none⟩ = some (.int .i64 z.2) ∧ Below W.heap.size W w') hk4.out (pmul_eq (HMF.out _ _) _) (by assumption)).mono ?_; rintro e w' ⟨rfl, kS⟩))
    all_goals (go_wp2_with fail; go_ret; exact ⟨rfl, (show (fun w' : World => w'.cell? ⟨W.heap.size, 0, none⟩ = some (.int .i64 x.1) ∧ w'.cell? ⟨W.heap.size, 1, none⟩ = some (.int .i64 x.2) ∧ w'.cell? ⟨W.heap.size + 1, 0, none⟩ = some (.int .i64 y.1) ∧ w'.cell? ⟨W.heap.size + 1, 1, none⟩ = some (.int .i64 y.2) ∧ w'.cell? ⟨C3, 0, none⟩ = some (.int .i64 1) ∧ w'.cell? ⟨C3, 1, none⟩ = some (.int .i64 0) ∧ w'.cell? ⟨C3 + 1, 0, none⟩ = some (.int .i64 0) ∧ w'.cell? ⟨C3 + 1, 1, none⟩ = some (.int .i64 0) ∧ w'.cell? ⟨C4, 0, none⟩ = some (.int .i64 z.1) ∧ w'.cell? ⟨C4, 1, none⟩ = some (.int .i64 z.2) ∧ Below W.heap.size W w') _ by assumption).2.2.2.2.2.2.2.2.2.2⟩)
set_option maxHeartbeats 4000000 in
set_option maxRecDepth 100000 in
theorem gaussField_false_true (x y : Ga.E) (hx : Ga.ok x = true) (hy : Ga.ok y = true) (h0 : x ≠ (0, 0)) (hi : Ga.mul x y ≠ (1, 0) ∧ y ≠ (Ga.inv x).1) (hj : Ga.mul x y = (0, 0) ∧ y = (0, 0)) (W : World) :
    Calls Try.prog 8 #[elv x, elv y] W fun e W' => e = .returned (.bool true) ∧ Below W.heap.size W W' := by
  have hi' := Ga.inv_mul hx h0
  obtain ⟨⟨z, c⟩, hz'⟩ : ∃ z, Ga.inv x = z := ⟨_, rfl⟩
  rw [hz'] at hi' hi
  obtain ⟨hzo, hc', hm'⟩ := hi'
  simp only at hc' hm' hi
  subst hc'
  obtain ⟨mf, hmf'⟩ : ∃ f : Ga.E → Ga.E → Ga.E, ∀ a b, Ga.mul a b = f a b := ⟨Ga.mul, fun _ _ => rfl⟩
  have HMF := Lib.hid hmf'
  rw [hmf'] at hi hj hm'
  have HX := Lib.hid hx
  have HY := Lib.hid hy
  have HZ := Lib.hid hz'
  have em : eqE (mf x z).1 (mf x z).2 1 0 = true := eqE_eq (y := (1, 0)) hm'
  have e0 : eqE x.1 x.2 0 0 = false := eqE_ne (y := (0, 0)) h0
  have e1 : eqE (mf x y).1 (mf x y).2 1 0 = false := eqE_ne (y := (1, 0)) hi.1
  have e2 : eqE y.1 y.2 z.1 z.2 = false := eqE_ne hi.2
  have e3 : eqE (mf x y).1 (mf x y).2 0 0 = true := eqE_eq (y := (0, 0)) hj.1
  have e4 : eqE y.1 y.2 0 0 = true := eqE_eq (y := (0, 0)) hj.2
  clear hx hy hz' hm' hmf' hzo h0 hi hj
  go_enter Try.func8, Try.ntmps8
  go_wp2_with fail
  refine (gaShown_any _).mono ?_
  rintro e w1 ⟨rfl, h1⟩
  have x0 := ((EBox.new W x.1 x.2).alloc (.cells #[.int .i64 y.1, .int .i64 y.2] 23)).kept h1
  obtain ⟨k0, k1, _, _⟩ := x0.facts
  have x1 := (EBox.new (W.alloc (.cells #[.int .i64 x.1, .int .i64 x.2] 23)) y.1 y.2).kept h1
  simp only [World.size_alloc] at x1
  obtain ⟨k2, k3, _, _⟩ := x1.facts
  have kb : Below W.heap.size W w1 := (((Below.refl _ W).alloc (Nat.le_refl _) _).alloc (by simp) _).trans (h1.mono (by simp; omega))
  clear h1 x0 x1
  have hk1 := Lib.hid (show ∀ a b : World, (fun w' : World => w'.cell? ⟨W.heap.size, 0, none⟩ = some (.int .i64 x.1) ∧ w'.cell? ⟨W.heap.size, 1, none⟩ = some (.int .i64 x.2) ∧ w'.cell? ⟨W.heap.size + 1, 0, none⟩ = some (.int .i64 y.1) ∧ w'.cell? ⟨W.heap.size + 1, 1, none⟩ = some (.int .i64 y.2) ∧ Below W.heap.size W w') a → Below a.heap.size a b → (fun w' : World => w'.cell? ⟨W.heap.size, 0, none⟩ = some (.int .i64 x.1) ∧ w'.cell? ⟨W.heap.size, 1, none⟩ = some (.int .i64 x.2) ∧ w'.cell? ⟨W.heap.size + 1, 0, none⟩ = some (.int .i64 y.1) ∧ w'.cell? ⟨W.heap.size + 1, 1, none⟩ = some (.int .i64 y.2) ∧ Below W.heap.size W w') b from fun a b ⟨k0, k1, k2, k3, kb⟩ h => ⟨below_cell h k0, below_cell h k1, below_cell h k2, below_cell h k3, grow_trans kb h⟩)
  go_wp2_with fail
  refine (keepS (fun w' : World => w'.cell? ⟨W.heap.size, 0, none⟩ = some (.int .i64 x.1) ∧ w'.cell? ⟨W.heap.size, 1, none⟩ = some (.int .i64 x.2) ∧ w'.cell? ⟨W.heap.size + 1, 0, none⟩ = some (.int .i64 y.1) ∧ w'.cell? ⟨W.heap.size + 1, 1, none⟩ = some (.int .i64 y.2) ∧ Below W.heap.size W w') hk1.out (s_may HX.out _) ⟨k0, k1, k2, k3, kb⟩).mono ?_
  clear k0 k1 k2 k3 kb
  rintro e w2 ⟨rfl, k0, k1, k2, k3, kb⟩
  go_wp2_with fail
  refine (keepS (fun w' : World => w'.cell? ⟨W.heap.size, 0, none⟩ = some (.int .i64 x.1) ∧ w'.cell? ⟨W.heap.size, 1, none⟩ = some (.int .i64 x.2) ∧ w'.cell? ⟨W.heap.size + 1, 0, none⟩ = some (.int .i64 y.1) ∧ w'.cell? ⟨W.heap.size + 1, 1, none⟩ = some (.int .i64 y.2) ∧ Below W.heap.size W w') hk1.out (s_may HY.out _) ⟨k0, k1, k2, k3, kb⟩).mono ?_
  clear k0 k1 k2 k3 kb
  rintro e w3 ⟨rfl, k0, k1, k2, k3, kb⟩
  have gb10 : Below w3.heap.size w3 (w3.alloc (.cells #[.int .i64 1, .int .i64 0] 23)) := (Below.refl _ _).alloc (Nat.le_refl _) _
  replace k0 := below_cell gb10 k0
  replace k1 := below_cell gb10 k1
  replace k2 := below_cell gb10 k2
  replace k3 := below_cell gb10 k3
  replace kb := grow_trans kb gb10
  obtain ⟨k4, k5, _, _⟩ := (EBox.new w3 1 0).facts
  clear gb10
  obtain ⟨C3, hC3⟩ : ∃ C, w3.heap.size = C := ⟨_, rfl⟩
  rw [hC3] at k4 k5
  have hk2 := Lib.hid (show ∀ a b : World, (fun w' : World => w'.cell? ⟨W.heap.size, 0, none⟩ = some (.int .i64 x.1) ∧ w'.cell? ⟨W.heap.size, 1, none⟩ = some (.int .i64 x.2) ∧ w'.cell? ⟨W.heap.size + 1, 0, none⟩ = some (.int .i64 y.1) ∧ w'.cell? ⟨W.heap.size + 1, 1, none⟩ = some (.int .i64 y.2) ∧ w'.cell? ⟨C3, 0, none⟩ = some (.int .i64 1) ∧ w'.cell? ⟨C3, 1, none⟩ = some (.int .i64 0) ∧ Below W.heap.size W w') a → Below a.heap.size a b → (fun w' : World => w'.cell? ⟨W.heap.size, 0, none⟩ = some (.int .i64 x.1) ∧ w'.cell? ⟨W.heap.size, 1, none⟩ = some (.int .i64 x.2) ∧ w'.cell? ⟨W.heap.size + 1, 0, none⟩ = some (.int .i64 y.1) ∧ w'.cell? ⟨W.heap.size + 1, 1, none⟩ = some (.int .i64 y.2) ∧ w'.cell? ⟨C3, 0, none⟩ = some (.int .i64 1) ∧ w'.cell? ⟨C3, 1, none⟩ = some (.int .i64 0) ∧ Below W.heap.size W w') b from fun a b ⟨k0, k1, k2, k3, k4, k5, kb⟩ h => ⟨below_cell h k0, below_cell h k1, below_cell h k2, below_cell h k3, below_cell h k4, below_cell h k5, grow_trans kb h⟩)
  have gb21 : Below (w3.alloc (.cells #[.int .i64 1, .int .i64 0] 23)).heap.size (w3.alloc (.cells #[.int .i64 1, .int .i64 0] 23)) ((w3.alloc (.cells #[.int .i64 1, .int .i64 0] 23)).alloc (.cells #[.int .i64 0, .int .i64 0] 23)) := (Below.refl _ _).alloc (Nat.le_refl _) _
  replace k0 := below_cell gb21 k0
  replace k1 := below_cell gb21 k1
  replace k2 := below_cell gb21 k2
  replace k3 := below_cell gb21 k3
  replace k4 := below_cell gb21 k4
  replace k5 := below_cell gb21 k5
  replace kb := grow_trans kb gb21
  obtain ⟨k6, k7, _, _⟩ := (EBox.new (w3.alloc (.cells #[.int .i64 1, .int .i64 0] 23)) 0 0).facts
  clear gb21
  simp only [World.size_alloc] at k6 k7
  rw [hC3] at k6 k7
  have hk3 := Lib.hid (show ∀ a b : World, (fun w' : World => w'.cell? ⟨W.heap.size, 0, none⟩ = some (.int .i64 x.1) ∧ w'.cell? ⟨W.heap.size, 1, none⟩ = some (.int .i64 x.2) ∧ w'.cell? ⟨W.heap.size + 1, 0, none⟩ = some (.int .i64 y.1) ∧ w'.cell? ⟨W.heap.size + 1, 1, none⟩ = some (.int .i64 y.2) ∧ w'.cell? ⟨C3, 0, none⟩ = some (.int .i64 1) ∧ w'.cell? ⟨C3, 1, none⟩ = some (.int .i64 0) ∧ w'.cell? ⟨C3 + 1, 0, none⟩ = some (.int .i64 0) ∧ w'.cell? ⟨C3 + 1, 1, none⟩ = some (.int .i64 0) ∧ Below W.heap.size W w') a → Below a.heap.size a b → (fun w' : World => w'.cell? ⟨W.heap.size, 0, none⟩ = some (.int .i64 x.1) ∧ w'.cell? ⟨W.heap.size, 1, none⟩ = some (.int .i64 x.2) ∧ w'.cell? ⟨W.heap.size + 1, 0, none⟩ = some (.int .i64 y.1) ∧ w'.cell? ⟨W.heap.size + 1, 1, none⟩ = some (.int .i64 y.2) ∧ w'.cell? ⟨C3, 0, none⟩ = some (.int .i64 1) ∧ w'.cell? ⟨C3, 1, none⟩ = some (.int .i64 0) ∧ w'.cell? ⟨C3 + 1, 0, none⟩ = some (.int .i64 0) ∧ w'.cell? ⟨C3 + 1, 1, none⟩ = some (.int .i64 0) ∧ Below W.heap.size W w') b from fun a b ⟨k0, k1, k2, k3, k4, k5, k6, k7, kb⟩ h => ⟨below_cell h k0, below_cell h k1, below_cell h k2, below_cell h k3, below_cell h k4, below_cell h k5, below_cell h k6, below_cell h k7, grow_trans kb h⟩)
  go_wp2_with fail
  refine (keepS (fun w' : World => w'.cell? ⟨W.heap.size, 0, none⟩ = some (.int .i64 x.1) ∧ w'.cell? ⟨W.heap.size, 1, none⟩ = some (.int .i64 x.2) ∧ w'.cell? ⟨W.heap.size + 1, 0, none⟩ = some (.int .i64 y.1) ∧ w'.cell? ⟨W.heap.size + 1, 1, none⟩ = some (.int .i64 y.2) ∧ w'.cell? ⟨C3, 0, none⟩ = some (.int .i64 1) ∧ w'.cell? ⟨C3, 1, none⟩ = some (.int .i64 0) ∧ w'.cell? ⟨C3 + 1, 0, none⟩ = some (.int .i64 0) ∧ w'.cell? ⟨C3 + 1, 1, none⟩ = some (.int .i64 0) ∧ Below W.heap.size W w') hk3.out (s_inv HZ.out _) ⟨k0, k1, k2, k3, k4, k5, k6, k7, kb⟩).mono ?_
  clear k0 k1 k2 k3 k4 k5 k6 k7 kb
  rintro e w4 ⟨rfl, k0, k1, k2, k3, k4, k5, k6, k7, kb⟩
  have gb30 : Below w4.heap.size w4 (w4.alloc (.cells #[.int .i64 z.1, .int .i64 z.2] 23)) := (Below.refl _ _).alloc (Nat.le_refl _) _
  replace k0 := below_cell gb30 k0
  replace k1 := below_cell gb30 k1
  replace k2 := below_cell gb30 k2
  replace k3 := below_cell gb30 k3
  replace k4 := below_cell gb30 k4
  replace k5 := below_cell gb30 k5
  replace k6 := below_cell gb30 k6
  replace k7 := below_cell gb30 k7
  replace kb := grow_trans kb gb30
  obtain ⟨k8, k9, _, _⟩ := (EBox.new w4 z.1 z.2).facts
  clear gb30
  obtain ⟨C4, hC4⟩ : ∃ C, w4.heap.size = C := ⟨_, rfl⟩
  rw [hC4] at k8 k9
  have hk4 := Lib.hid (show ∀ a b : World, (fun w' : World => w'.cell? ⟨W.heap.size, 0, none⟩ = some (.int .i64 x.1) ∧ w'.cell? ⟨W.heap.size, 1, none⟩ = some (.int .i64 x.2) ∧ w'.cell? ⟨W.heap.size + 1, 0, none⟩ = some (.int .i64 y.1) ∧ w'.cell? ⟨W.heap.size + 1, 1, none⟩ = some (.int .i64 y.2) ∧ w'.cell? ⟨C3, 0, none⟩ = some (.int .i64 1) ∧ w'.cell? ⟨C3, 1, none⟩ = some (.int .i64 0) ∧ w'.cell? ⟨C3 + 1, 0, none⟩ = some (.int .i64 0) ∧ w'.cell? ⟨C3 + 1, 1, none⟩ = some (.int .i64 0) ∧ w'.cell? ⟨C4, 0, none⟩ = some (.int .i64 z.1) ∧ w'.cell? ⟨C4, 1, none⟩ = some (.int .i64 z.2) ∧ Below W.heap.size W w') a → Below a.heap.size a b → (fun w' : World => w'.cell? ⟨W.heap.size, 0, none⟩ = some (.int .i64 x.1) ∧ w'.cell? ⟨W.heap.size, 1, none⟩ = some (.int .i64 x.2) ∧ w'.cell? ⟨W.heap.size + 1, 0, none⟩ = some (.int .i64 y.1) ∧ w'.cell? ⟨W.heap.size + 1, 1, none⟩ = some (.int .i64 y.2) ∧ w'.cell? ⟨C3, 0, none⟩ = some (.int .i64 1) ∧ w'.cell? ⟨C3, 1, none⟩ = some (.int .i64 0) ∧ w'.cell? ⟨C3 + 1, 0, none⟩ = some (.int .i64 0) ∧ w'.cell? ⟨C3 + 1, 1, none⟩ = some (.int .i64 0) ∧ w'.cell? ⟨C4, 0, none⟩ = some (.int .i64 z.1) ∧ w'.cell? ⟨C4, 1, none⟩ = some (.int .i64 z.2) ∧ Below W.heap.size W w') b from fun a b ⟨k0, k1, k2, k3, k4, k5, k6, k7, k8, k9, kb⟩ h => ⟨below_cell h k0, below_cell h k1, below_cell h k2, below_cell h k3, below_cell h k4, below_cell h k5, below_cell h k6, below_cell h k7, below_cell h k8, below_cell h k9, grow_trans kb h⟩)
  go_wp2_with fail
  go_upto_region 9 with fail
  go_cut [10] (fun s10 wx => s10 = .bool false ∧ (fun w' : World => w'.cell? ⟨W.heap.size, 0, none⟩ = some (.int .i64 x.1) ∧ w'.cell? ⟨W.heap.size, 1, none⟩ = some (.int .i64 x.2) ∧ w'.cell? ⟨W.heap.size + 1, 0, none⟩ = some (.int .i64 y.1) ∧ w'.cell? ⟨W.heap.size + 1, 1, none⟩ = some (.int .i64 y.2) ∧ w'.cell? ⟨C3, 0, none⟩ = some (.int .i64 1) ∧ w'.cell? ⟨C3, 1, none⟩ = some (.int .i64 0) ∧ w'.cell? ⟨C3 + 1, 0, none⟩ = some (.int .i64 0) ∧ w'.cell? ⟨C3 + 1, 1, none⟩ = some (.int .i64 0) ∧ w'.cell? ⟨C4, 0, none⟩ = some (.int .i64 z.1) ∧ w'.cell? ⟨C4, 1, none⟩ = some (.int .i64 z.2) ∧ Below W.heap.size W w') wx)
  case first =>
    go_region_held3 (fun w' : World => w'.cell? ⟨W.heap.size, 0, none⟩ = some (.int .i64 x.1) ∧ w'.cell? ⟨W.heap.size, 1, none⟩ = some (.int .i64 x.2) ∧ w'.cell? ⟨W.heap.size + 1, 0, none⟩ = some (.int .i64 y.1) ∧ w'.cell? ⟨W.heap.size + 1, 1, none⟩ = some (.int .i64 y.2) ∧ w'.cell? ⟨C3, 0, none⟩ = some (.int .i64 1) ∧ w'.cell? ⟨C3, 1, none⟩ = some (.int .i64 0) ∧ w'.cell? ⟨C3 + 1, 0, none⟩ = some (.int .i64 0) ∧ w'.cell? ⟨C3 + 1, 1, none⟩ = some (.int .i64 0) ∧ w'.cell? ⟨C4, 0, none⟩ = some (.int .i64 z.1) ∧ w'.cell? ⟨C4, 1, none⟩ = some (.int .i64 z.2) ∧ Below W.heap.size W w')
      (first | assumption | exact ⟨by assumption, by assumption, by assumption, by assumption, by assumption, by assumption, by assumption, by assumption, by assumption, by assumption, by first | assumption | exact Below.drew (by assumption)⟩)
      (first
        | (go_at_call 20; refine (keepS (fun w' : World => w'.cell? ⟨W.heap.size, 0, none⟩ = some (.int .i64 x.1) ∧ w'.cell? ⟨W.heap.size, 1, none⟩ = some (.int .i64 x.2) ∧ w'.cell? ⟨W.heap.size + 1, 0, none⟩ = some (.int .i64 y.1) ∧ w'.cell? ⟨W.heap.size + 1, 1, none⟩ = some (.int .i64 y.2) ∧ w'.cell? ⟨C3, 0, none⟩ = some (.int .i64 1) ∧ w'.cell? ⟨C3, 1, none⟩ = some (.int .i64 0) ∧ w'.cell? ⟨C3 + 1, 0, none⟩ = some (.int .i64 0) ∧ w'.cell? ⟨C3 + 1, 1, none⟩ = some (.int .i64 0) ∧ w'.cell? ⟨C4, 0, none⟩ = some (.int .i64 z.1) ∧ w'.cell? ⟨C4, 1, none⟩ = some (.int .i64 z.2) ∧ Below W.heap.size W w') hk4.out (pmul_eq (HMF.out _ _) _) (by assumption)).mono ?_; rintro e w' ⟨rfl, kS⟩))
    all_goals (go_wp2_with fail; go_meet; exact ⟨rfl, by assumption⟩)
  case rest =>
    clear k0 k1 k2 k3 k4 k5 k6 k7 k8 k9 kb
    obtain ⟨rfl, k0, k1, k2, k3, k4, k5, k6, k7, k8, k9, kb⟩ := hcut
    go_wp2_with fail
    go_region_held3 (fun w' : World => w'.cell? ⟨W.heap.size, 0, none⟩ = some (.int .i64 x.1) ∧ w'.cell? ⟨W.heap.size, 1, none⟩ = some (.int .i64 x.2) ∧ w'.cell? ⟨W.heap.size + 1, 0, none⟩ = some (.int .i64 y.1) ∧ w'.cell? ⟨W.heap.size + 1, 1, none⟩ = some (.int .i64 y.2) ∧ w'.cell? ⟨C3, 0, none⟩ = some (.int .i64 1) ∧ w'.cell? ⟨C3, 1, none⟩ = some (.int .i64 0) ∧ w'.cell? ⟨C3 + 1, 0, none⟩ = some (.int .i64 0) ∧ w'.cell? ⟨C3 + 1, 1, none⟩ = some (.int .i64 0) ∧ w'.cell? ⟨C4, 0, none⟩ = some (.int .i64 z.1) ∧ w'.cell? ⟨C4, 1, none⟩ = some (.int .i64 z.2) ∧ Below W.heap.size W w')
      (first | assumption | exact ⟨by assumption, by assumption, by assumption, by assumption, by assumption, by assumption, by assumption, by assumption, by assumption, by assumption, by first | assumption | exact Below.drew (by assumption)⟩)
      (first
        | (go_at_call 20; refine (keepS (fun w' : World => w'.cell? ⟨W.heap.size, 0, none⟩ = some (.int .i64 x.1) ∧ w'.cell? ⟨W.heap.size, 1, none⟩ = some (.int .i64 x.2) ∧ w'.cell? ⟨W.heap.size + 1, 0, none⟩ = some (.int .i64 y.1) ∧ w'.cell? ⟨W.heap.size + 1, 1, none⟩ = some (.int .i64 y.2) ∧ w'.cell? ⟨C3, 0, none⟩ = some (.int .i64 1) ∧ w'.cell? ⟨C3, 1, none⟩ = some (.int .i64 0) ∧ w'.cell? ⟨C3 + 1, 0, none⟩ = some (.int .i64 0) ∧ w'.cell? ⟨C3 + 1, 1, none⟩ = some (.int .i64 0) ∧ w'.cell? ⟨C4, 0, none⟩ = some (.int .i64 z.1) ∧ w'.cell? ⟨C4, 1, none⟩ = some (.int .i64 z.2) ∧ Below W.heap.size W w') hk4.out (pmul_eq (HMF.out _ _) _) (by assumption)).mono ?_; rintro e w' ⟨rfl, kS⟩))
    all_goals (go_wp2_with fail; go_ret; exact ⟨rfl, (show (fun w' : World => w'.cell? ⟨W.heap.size, 0, none⟩ = some (.int .i64 x.1) ∧ w'.cell? ⟨W.heap.size, 1, none⟩ = some (.int .i64 x.2) ∧ w'.cell? ⟨W.heap.size + 1, 0, none⟩ = some (.int .i64 y.1) ∧ w'.cell? ⟨W.heap.size + 1, 1, none⟩ = some (.int .i64 y.2) ∧ w'.cell? ⟨C3, 0, none⟩ = some (.int .i64 1) ∧ w'.cell? ⟨C3, 1, none⟩ = some (.int .i64 0) ∧ w'.cell? ⟨C3 + 1, 0, none⟩ = some (.int .i64 0) ∧ w'.cell? ⟨C3 + 1, 1, none⟩ = some (.int .i64 0) ∧ w'.cell? ⟨C4, 0, none⟩ = some (.int .i64 z.1) ∧ w'.cell? ⟨C4, 1, none⟩ = some (.int .i64 z.2) ∧ Below W.heap.size W w') _ by assumption).2.2.2.2.2.2.2.2.2.2⟩)
set_option maxHeartbeats 4000000 in
set_option maxRecDepth 100000 in
theorem gaussField_false_false (x y : Ga.E) (hx : Ga.ok x = true) (hy : Ga.ok y = true) (h0 : x ≠ (0, 0)) (hi : Ga.mul x y ≠ (1, 0) ∧ y ≠ (Ga.inv x).1) (hj : Ga.mul x y ≠ (0, 0) ∧ y ≠ (0, 0)) (W : World) :
    Calls Try.prog 8 #[elv x, elv y] W fun e W' => e = .returned (.bool true) ∧ Below W.heap.size W W' := by
  have hi' := Ga.inv_mul hx h0
  obtain ⟨⟨z, c⟩, hz'⟩ : ∃ z, Ga.inv x = z := ⟨_, rfl⟩
  rw [hz'] at hi' hi
  obtain ⟨hzo, hc', hm'⟩ := hi'
  simp only at hc' hm' hi
  subst hc'
  obtain ⟨mf, hmf'⟩ : ∃ f : Ga.E → Ga.E → Ga.E, ∀ a b, Ga.mul a b = f a b := ⟨Ga.mul, fun _ _ => rfl⟩
  have HMF := Lib.hid hmf'
  rw [hmf'] at hi hj hm'
  have HX := Lib.hid hx
  have HY := Lib.hid hy
  have HZ := Lib.hid hz'
  have em : eqE (mf x z).1 (mf x z).2 1 0 = true := eqE_eq (y := (1, 0)) hm'
  have e0 : eqE x.1 x.2 0 0 = false := eqE_ne (y := (0, 0)) h0
  have e1 : eqE (mf x y).1 (mf x y).2 1 0 = false := eqE_ne (y := (1, 0)) hi.1
  have e2 : eqE y.1 y.2 z.1 z.2 = false := eqE_ne hi.2
  have e3 : eqE (mf x y).1 (mf x y).2 0 0 = false := eqE_ne (y := (0, 0)) hj.1
  have e4 : eqE y.1 y.2 0 0 = false := eqE_ne (y := (0, 0)) hj.2
  clear hx hy hz' hm' hmf' hzo h0 hi hj
  go_enter Try.func8, Try.ntmps8
  go_wp2_with fail
  refine (gaShown_any _).mono ?_
  rintro e w1 ⟨rfl, h1⟩
  have x0 := ((EBox.new W x.1 x.2).alloc (.cells #[.int .i64 y.1, .int .i64 y.2] 23)).kept h1
  obtain ⟨k0, k1, _, _⟩ := x0.facts
  have x1 := (EBox.new (W.alloc (.cells #[.int .i64 x.1, .int .i64 x.2] 23)) y.1 y.2).kept h1
  simp only [World.size_alloc] at x1
  obtain ⟨k2, k3, _, _⟩ := x1.facts
  have kb : Below W.heap.size W w1 := (((Below.refl _ W).alloc (Nat.le_refl _) _).alloc (by simp) _).trans (h1.mono (by simp; omega))
  clear h1 x0 x1
  have hk1 := Lib.hid (show ∀ a b : World, (fun w' : World => w'.cell? ⟨W.heap.size, 0, none⟩ = some (.int .i64 x.1) ∧ w'.cell? ⟨W.heap.size, 1, none⟩ = some (.int .i64 x.2) ∧ w'.cell? ⟨W.heap.size + 1, 0, none⟩ = some (.int .i64 y.1) ∧ w'.cell? ⟨W.heap.size + 1, 1, none⟩ = some (.int .i64 y.2) ∧ Below W.heap.size W w') a → Below a.heap.size a b → (fun w' : World => w'.cell? ⟨W.heap.size, 0, none⟩ = some (.int .i64 x.1) ∧ w'.cell? ⟨W.heap.size, 1, none⟩ = some (.int .i64 x.2) ∧ w'.cell? ⟨W.heap.size + 1, 0, none⟩ = some (.int .i64 y.1) ∧ w'.cell? ⟨W.heap.size + 1, 1, none⟩ = some (.int .i64 y.2) ∧ Below W.heap.size W w') b from fun a b ⟨k0, k1, k2, k3, kb⟩ h => ⟨below_cell h k0, below_cell h k1, below_cell h k2, below_cell h k3, grow_trans kb h⟩)
  go_wp2_with fail
  refine (keepS (fun w' : World => w'.cell? ⟨W.heap.size, 0, none⟩ = some (.int .i64 x.1) ∧ w'.cell? ⟨W.heap.size, 1, none⟩ = some (.int .i64 x.2) ∧ w'.cell? ⟨W.heap.size + 1, 0, none⟩ = some (.int .i64 y.1) ∧ w'.cell? ⟨W.heap.size + 1, 1, none⟩ = some (.int .i64 y.2) ∧ Below W.heap.size W w') hk1.out (s_may HX.out _) ⟨k0, k1, k2, k3, kb⟩).mono ?_
  clear k0 k1 k2 k3 kb
  rintro e w2 ⟨rfl, k0, k1, k2, k3, kb⟩
  go_wp2_with fail
  refine (keepS (fun w' : World => w'.cell? ⟨W.heap.size, 0, none⟩ = some (.int .i64 x.1) ∧ w'.cell? ⟨W.heap.size, 1, none⟩ = some (.int .i64 x.2) ∧ w'.cell? ⟨W.heap.size + 1, 0, none⟩ = some (.int .i64 y.1) ∧ w'.cell? ⟨W.heap.size + 1, 1, none⟩ = some (.int .i64 y.2) ∧ Below W.heap.size W w') hk1.out (s_may HY.out _) ⟨k0, k1, k2, k3, kb⟩).mono ?_
  clear k0 k1 k2 k3 kb
  rintro e w3 ⟨rfl, k0, k1, k2, k3, kb⟩
  have gb10 : Below w3.heap.size w3 (w3.alloc (.cells #[.int .i64 1, .int .i64 0] 23)) := (Below.refl _ _).alloc (Nat.le_refl _) _
  replace k0 := below_cell gb10 k0
  replace k1 := below_cell gb10 k1
  replace k2 := below_cell gb10 k2
  replace k3 := below_cell gb10 k3
  replace kb := grow_trans kb gb10
  obtain ⟨k4, k5, _, _⟩ := (EBox.new w3 1 0).facts
  clear gb10
  obtain ⟨C3, hC3⟩ : ∃ C, w3.heap.size = C := ⟨_, rfl⟩
  rw [hC3] at k4 k5
  have hk2 := Lib.hid (show ∀ a b : World, (fun w' : World => w'.cell? ⟨W.heap.size, 0, none⟩ = some (.int .i64 x.1) ∧ w'.cell? ⟨W.heap.size, 1, none⟩ = some (.int .i64 x.2) ∧ w'.cell? ⟨W.heap.size + 1, 0, none⟩ = some (.int .i64 y.1) ∧ w'.cell? ⟨W.heap.size + 1, 1, none⟩ = some (.int .i64 y.2) ∧ w'.cell? ⟨C3, 0, none⟩ = some (.int .i64 1) ∧ w'.cell? ⟨C3, 1, none⟩ = some (.int .i64 0) ∧ Below W.heap.size W w') a → Below a.heap.size a b → (fun w' : World => w'.cell? ⟨W.heap.size, 0, none⟩ = some (.int .i64 x.1) ∧ w'.cell? ⟨W.heap.size, 1, none⟩ = some (.int .i64 x.2) ∧ w'.cell? ⟨W.heap.size + 1, 0, none⟩ = some (.int .i64 y.1) ∧ w'.cell? ⟨W.heap.size + 1, 1, none⟩ = some (.int .i64 y.2) ∧ w'.cell? ⟨C3, 0, none⟩ = some (.int .i64 1) ∧ w'.cell? ⟨C3, 1, none⟩ = some (.int .i64 0) ∧ Below W.heap.size W w') b from fun a b ⟨k0, k1, k2, k3, k4, k5, kb⟩ h => ⟨below_cell h k0, below_cell h k1, below_cell h k2, below_cell h k3, below_cell h k4, below_cell h k5, grow_trans kb h⟩)
  have gb21 : Below (w3.alloc (.cells #[.int .i64 1, .int .i64 0] 23)).heap.size (w3.alloc (.cells #[.int .i64 1, .int .i64 0] 23)) ((w3.alloc (.cells #[.int .i64 1, .int .i64 0] 23)).alloc (.cells #[.int .i64 0, .int .i64 0] 23)) := (Below.refl _ _).alloc (Nat.le_refl _) _
  replace k0 := below_cell gb21 k0
  replace k1 := below_cell gb21 k1
  replace k2 := below_cell gb21 k2
  replace k3 := below_cell gb21 k3
  replace k4 := below_cell gb21 k4
  replace k5 := below_cell gb21 k5
  replace kb := grow_trans kb gb21
  obtain ⟨k6, k7, _, _⟩ := (EBox.new (w3.alloc (.cells #[.int .i64 1, .int .i64 0] 23)) 0 0).facts
  clear gb21
  simp only [World.size_alloc] at k6 k7
  rw [hC3] at k6 k7
  have hk3 := Lib.hid (show ∀ a b : World, (fun w' : World => w'.cell? ⟨W.heap.size, 0, none⟩ = some (.int .i64 x.1) ∧ w'.cell? ⟨W.heap.size, 1, none⟩ = some (.int .i64 x.2) ∧ w'.cell? ⟨W.heap.size + 1, 0, none⟩ = some (.int .i64 y.1) ∧ w'.cell? ⟨W.heap.size + 1, 1, none⟩ = some (.int .i64 y.2) ∧ w'.cell? ⟨C3, 0, none⟩ = some (.int .i64 1) ∧ w'.cell? ⟨C3, 1, none⟩ = some (.int .i64 0) ∧ w'.cell? ⟨C3 + 1, 0, none⟩ = some (.int .i64 0) ∧ w'.cell? ⟨C3 + 1, 1, none⟩ = some (.int .i64 0) ∧ Below W.heap.size W w') a → Below a.heap.size a b → (fun w' : World => w'.cell? ⟨W.heap.size, 0, none⟩ = some (.int .i64 x.1) ∧ w'.cell? ⟨W.heap.size, 1, none⟩ = some (.int .i64 x.2) ∧ w'.cell? ⟨W.heap.size + 1, 0, none⟩ = some (.int .i64 y.1) ∧ w'.cell? ⟨W.heap.size + 1, 1, none⟩ = some (.int .i64 y.2) ∧ w'.cell? ⟨C3, 0, none⟩ = some (.int .i64 1) ∧ w'.cell? ⟨C3, 1, none⟩ = some (.int .i64 0) ∧ w'.cell? ⟨C3 + 1, 0, none⟩ = some (.int .i64 0) ∧ w'.cell? ⟨C3 + 1, 1, none⟩ = some (.int .i64 0) ∧ Below W.heap.size W w') b from fun a b ⟨k0, k1, k2, k3, k4, k5, k6, k7, kb⟩ h => ⟨below_cell h k0, below_cell h k1, below_cell h k2, below_cell h k3, below_cell h k4, below_cell h k5, below_cell h k6, below_cell h k7, grow_trans kb h⟩)
  go_wp2_with fail
  refine (keepS (fun w' : World => w'.cell? ⟨W.heap.size, 0, none⟩ = some (.int .i64 x.1) ∧ w'.cell? ⟨W.heap.size, 1, none⟩ = some (.int .i64 x.2) ∧ w'.cell? ⟨W.heap.size + 1, 0, none⟩ = some (.int .i64 y.1) ∧ w'.cell? ⟨W.heap.size + 1, 1, none⟩ = some (.int .i64 y.2) ∧ w'.cell? ⟨C3, 0, none⟩ = some (.int .i64 1) ∧ w'.cell? ⟨C3, 1, none⟩ = some (.int .i64 0) ∧ w'.cell? ⟨C3 + 1, 0, none⟩ = some (.int .i64 0) ∧ w'.cell? ⟨C3 + 1, 1, none⟩ = some (.int .i64 0) ∧ Below W.heap.size W w') hk3.out (s_inv HZ.out _) ⟨k0, k1, k2, k3, k4, k5, k6, k7, kb⟩).mono ?_
  clear k0 k1 k2 k3 k4 k5 k6 k7 kb
  rintro e w4 ⟨rfl, k0, k1, k2, k3, k4, k5, k6, k7, kb⟩
  have gb30 : Below w4.heap.size w4 (w4.alloc (.cells #[.int .i64 z.1, .int .i64 z.2] 23)) := (Below.refl _ _).alloc (Nat.le_refl _) _
  replace k0 := below_cell gb30 k0
  replace k1 := below_cell gb30 k1
  replace k2 := below_cell gb30 k2
  replace k3 := below_cell gb30 k3
  replace k4 := below_cell gb30 k4
  replace k5 := below_cell gb30 k5
  replace k6 := below_cell gb30 k6
  replace k7 := below_cell gb30 k7
  replace kb := grow_trans kb gb30
  obtain ⟨k8, k9, _, _⟩ := (EBox.new w4 z.1 z.2).facts
  clear gb30
  obtain ⟨C4, hC4⟩ : ∃ C, w4.heap.size = C := ⟨_, rfl⟩
  rw [hC4] at k8 k9
  have hk4 := Lib.hid (show ∀ a b : World, (fun w' : World => w'.cell? ⟨W.heap.size, 0, none⟩ = some (.int .i64 x.1) ∧ w'.cell? ⟨W.heap.size, 1, none⟩ = some (.int .i64 x.2) ∧ w'.cell? ⟨W.heap.size + 1, 0, none⟩ = some (.int .i64 y.1) ∧ w'.cell? ⟨W.heap.size + 1, 1, none⟩ = some (.int .i64 y.2) ∧ w'.cell? ⟨C3, 0, none⟩ = some (.int .i64 1) ∧ w'.cell? ⟨C3, 1, none⟩ = some (.int .i64 0) ∧ w'.cell? ⟨C3 + 1, 0, none⟩ = some (.int .i64 0) ∧ w'.cell? ⟨C3 + 1, 1, none⟩ = some (.int .i64 0) ∧ w'.cell? ⟨C4, 0, none⟩ = some (.int .i64 z.1) ∧ w'.cell? ⟨C4, 1, none⟩ = some (.int .i64 z.2) ∧ Below W.heap.size W w') a → Below a.heap.size a b → (fun w' : World => w'.cell? ⟨W.heap.size, 0, none⟩ = some (.int .i64 x.1) ∧ w'.cell? ⟨W.heap.size, 1, none⟩ = some (.int .i64 x.2) ∧ w'.cell? ⟨W.heap.size + 1, 0, none⟩ = some (.int .i64 y.1) ∧ w'.cell? ⟨W.heap.size + 1, 1, none⟩ = some (.int .i64 y.2) ∧ w'.cell? ⟨C3, 0, none⟩ = some (.int .i64 1) ∧ w'.cell? ⟨C3, 1, none⟩ = some (.int .i64 0) ∧ w'.cell? ⟨C3 + 1, 0, none⟩ = some (.int .i64 0) ∧ w'.cell? ⟨C3 + 1, 1, none⟩ = some (.int .i64 0) ∧ w'.cell? ⟨C4, 0, none⟩ = some (.int .i64 z.1) ∧ w'.cell? ⟨C4, 1, none⟩ = some (.int .i64 z.2) ∧ Below W.heap.size W w') b from fun a b ⟨k0, k1, k2, k3, k4, k5, k6, k7, k8, k9, kb⟩ h => ⟨below_cell h k0, below_cell h k1, below_cell h k2, below_cell h k3, below_cell h k4, below_cell h k5, below_cell h k6, below_cell h k7, below_cell h k8, below_cell h k9, grow_trans kb h⟩)
  go_wp2_with fail
  go_upto_region 9 with fail
  go_cut [10] (fun s10 wx => s10 = .bool false ∧ (fun w' : World => w'.cell? ⟨W.heap.size, 0, none⟩ = some (.int .i64 x.1) ∧ w'.cell? ⟨W.heap.size, 1, none⟩ = some (.int .i64 x.2) ∧ w'.cell? ⟨W.heap.size + 1, 0, none⟩ = some (.int .i64 y.1) ∧ w'.cell? ⟨W.heap.size + 1, 1, none⟩ = some (.int .i64 y.2) ∧ w'.cell? ⟨C3, 0, none⟩ = some (.int .i64 1) ∧ w'.cell? ⟨C3, 1, none⟩ = some (.int .i64 0) ∧ w'.cell? ⟨C3 + 1, 0, none⟩ = some (.int .i64 0) ∧ w'.cell? ⟨C3 + 1, 1, none⟩ = some (.int .i64 0) ∧ w'.cell? ⟨C4, 0, none⟩ = some (.int .i64 z.1) ∧ w'.cell? ⟨C4, 1, none⟩ = some (.int .i64 z.2) ∧ Below W.heap.size W w') wx)
  case first =>
    go_region_held3 (fun w' : World => w'.cell? ⟨W.heap.size, 0, none⟩ = some (.int .i64 x.1) ∧ w'.cell? ⟨W.heap.size, 1, none⟩ = some (.int .i64 x.2) ∧ w'.cell? ⟨W.heap.size + 1, 0, none⟩ = some (.int .i64 y.1) ∧ w'.cell? ⟨W.heap.size + 1, 1, none⟩ = some (.int .i64 y.2) ∧ w'.cell? ⟨C3, 0, none⟩ = some (.int .i64 1) ∧ w'.cell? ⟨C3, 1, none⟩ = some (.int .i64 0) ∧ w'.cell? ⟨C3 + 1, 0, none⟩ = some (.int .i64 0) ∧ w'.cell? ⟨C3 + 1, 1, none⟩ = some (.int .i64 0) ∧ w'.cell? ⟨C4, 0, none⟩ = some (.int .i64 z.1) ∧ w'.cell? ⟨C4, 1, none⟩ = some (.int .i64 z.2) ∧ Below W.heap.size W w')
      (first | assumption | exact ⟨by assumption, by assumption, by assumption, by assumption, by assumption, by assumption, by assumption, by assumption, by assumption, by assumption, by first | assumption | exact Below.drew (by assumption)⟩)
      (first
        | (go_at_call 20; refine (keepS (fun w' : World => w'.cell? ⟨W.heap.size, 0, none⟩ = some (.int .i64 x.1) ∧ w'.cell? ⟨W.heap.size, 1, none⟩ = some (.int .i64 x.2) ∧ w'.cell? ⟨W.heap.size + 1, 0, none⟩ = some (.int .i64 y.1) ∧ w'.cell? ⟨W.heap.size + 1, 1, none⟩ = some (.int .i64 y.2) ∧ w'.cell? ⟨C3, 0, none⟩ = some (.int .i64 1) ∧ w'.cell? ⟨C3, 1, none⟩ = some (.int .i64 0) ∧ w'.cell? ⟨C3 + 1, 0, none⟩ = some (.int .i64 0) ∧ w'.cell? ⟨C3 + 1, 1, none⟩ = some (.int .i64 0) ∧ w'.cell? ⟨C4, 0, none⟩ = some (.int .i64 z.1) ∧ w'.cell? ⟨C4, 1, none⟩ = some (.int .i64 z.2) ∧ Below W.heap.size W w') hk4.out (pmul_eq (HMF.out _ _) _) (by assumption)).mono ?_; rintro e w' ⟨rfl, kS⟩))
    all_goals (go_wp2_with fail; go_meet; exact ⟨rfl, by assumption⟩)
  case rest =>
    clear k0 k1 k2 k3 k4 k5 k6 k7 k8 k9 kb
    obtain ⟨rfl, k0, k1, k2, k3, k4, k5, k6, k7, k8, k9, kb⟩ := hcut
    go_wp2_with fail
    go_region_held3 (fun w' : World => w'.cell? ⟨W.heap.size, 0, none⟩ = some (.int .i64 x.1) ∧ w'.cell? ⟨W.heap.size, 1, none⟩ = some (.int .i64 x.2) ∧ w'.cell? ⟨W.heap.size + 1, 0, none⟩ = some (.int .i64 y.1) ∧ w'.cell? ⟨W.heap.size + 1, 1, none⟩ = some (.int .i64 y.2) ∧ w'.cell? ⟨C3, 0, none⟩ = some (.int .i64 1) ∧ w'.cell? ⟨C3, 1, none⟩ = some (.int .i64 0) ∧ w'.cell? ⟨C3 + 1, 0, none⟩ = some (.int .i64 0) ∧ w'.cell? ⟨C3 + 1, 1, none⟩ = some (.int .i64 0) ∧ w'.cell? ⟨C4, 0, none⟩ = some (.int .i64 z.1) ∧ w'.cell? ⟨C4, 1, none⟩ = some (.int .i64 z.2) ∧ Below W.heap.size W w')
      (first | assumption | exact ⟨by assumption, by assumption, by assumption, by assumption, by assumption, by assumption, by assumption, by assumption, by assumption, by assumption, by first | assumption | exact Below.drew (by assumption)⟩)
      (first
        | (go_at_call 20; refine (keepS (fun w' : World => w'.cell? ⟨W.heap.size, 0, none⟩ = some (.int .i64 x.1) ∧ w'.cell? ⟨W.heap.size, 1, none⟩ = some (.int .i64 x.2) ∧ w'.cell? ⟨W.heap.size + 1, 0, none⟩ = some (.int .i64 y.1) ∧ w'.cell? ⟨W.heap.size + 1, 1, none⟩ = some (.int .i64 y.2) ∧ w'.cell? ⟨C3, 0, none⟩ = some (.int .i64 1) ∧ w'.cell? ⟨C3, 1, none⟩ = some (.int .i64 0) ∧ w'.cell? ⟨C3 + 1, 0, none⟩ = some (.int .i64 0) ∧ w'.cell? ⟨C3 + 1, 1, none⟩ = some (.int .i64 0) ∧ w'.cell? ⟨C4, 0, none⟩ = some (.int .i64 z.1) ∧ w'.cell? ⟨C4, 1, none⟩ = some (.int .i64 z.2) ∧ Below W.heap.size W w') hk4.out (pmul_eq (HMF.out _ _) _) (by assumption)).mono ?_; rintro e w' ⟨rfl, kS⟩))
    all_goals (go_wp2_with fail; go_ret; exact ⟨rfl, (show (fun w' : World => w'.cell? ⟨W.heap.size, 0, none⟩ = some (.int .i64 x.1) ∧ w'.cell? ⟨W.heap.size, 1, none⟩ = some (.int .i64 x.2) ∧ w'.cell? ⟨W.heap.size + 1, 0, none⟩ = some (.int .i64 y.1) ∧ w'.cell? ⟨W.heap.size + 1, 1, none⟩ = some (.int .i64 y.2) ∧ w'.cell? ⟨C3, 0, none⟩ = some (.int .i64 1) ∧ w'.cell? ⟨C3, 1, none⟩ = some (.int .i64 0) ∧ w'.cell? ⟨C3 + 1, 0, none⟩ = some (.int .i64 0) ∧ w'.cell? ⟨C3 + 1, 1, none⟩ = some (.int .i64 0) ∧ w'.cell? ⟨C4, 0, none⟩ = some (.int .i64 z.1) ∧ w'.cell? ⟨C4, 1, none⟩ = some (.int .i64 z.2) ∧ Below W.heap.size W w') _ by assumption).2.2.2.2.2.2.2.2.2.2⟩)
set_option maxHeartbeats 4000000 in
set_option maxRecDepth 100000 in
theorem gaussField_nil (x y : Ga.E) (hx : Ga.ok x = true) (hy : Ga.ok y = true) (h0 : x = (0, 0)) (W : World) :
    Calls Try.prog 8 #[elv x, elv y] W fun e W' => e = .returned (.bool true) ∧ Below W.heap.size W W' := by
  have hz' : Ga.inv x = ((0, 0), 1) := by rw [h0]; decide
  have e0 : eqE x.1 x.2 0 0 = true := eqE_eq (y := (0, 0)) h0
  have HX := Lib.hid hx
  have HY := Lib.hid hy
  have HZ := Lib.hid hz'
  clear hx hy hz' h0
  go_enter Try.func8, Try.ntmps8
  go_wp2_with fail
  refine (gaShown_any _).mono ?_
  rintro e w1 ⟨rfl, h1⟩
  have x0 := ((EBox.new W x.1 x.2).alloc (.cells #[.int .i64 y.1, .int .i64 y.2] 23)).kept h1
  obtain ⟨k0, k1, _, _⟩ := x0.facts
  have x1 := (EBox.new (W.alloc (.cells #[.int .i64 x.1, .int .i64 x.2] 23)) y.1 y.2).kept h1
  simp only [World.size_alloc] at x1
  obtain ⟨k2, k3, _, _⟩ := x1.facts
  have kb : Below W.heap.size W w1 := (((Below.refl _ W).alloc (Nat.le_refl _) _).alloc (by simp) _).trans (h1.mono (by simp; omega))
  clear h1 x0 x1
  have hk1 := Lib.hid (show ∀ a b : World, (fun w' : World => w'.cell? ⟨W.heap.size, 0, none⟩ = some (.int .i64 x.1) ∧ w'.cell? ⟨W.heap.size, 1, none⟩ = some (.int .i64 x.2) ∧ w'.cell? ⟨W.heap.size + 1, 0, none⟩ = some (.int .i64 y.1) ∧ w'.cell? ⟨W.heap.size + 1, 1, none⟩ = some (.int .i64 y.2) ∧ Below W.heap.size W w') a → Below a.heap.size a b → (fun w' : World => w'.cell? ⟨W.heap.size, 0, none⟩ = some (.int .i64 x.1) ∧ w'.cell? ⟨W.heap.size, 1, none⟩ = some (.int .i64 x.2) ∧ w'.cell? ⟨W.heap.size + 1, 0, none⟩ = some (.int .i64 y.1) ∧ w'.cell? ⟨W.heap.size + 1, 1, none⟩ = some (.int .i64 y.2) ∧ Below W.heap.size W w') b from fun a b ⟨k0, k1, k2, k3, kb⟩ h => ⟨below_cell h k0, below_cell h k1, below_cell h k2, below_cell h k3, grow_trans kb h⟩)
  go_wp2_with fail
  refine (keepS (fun w' : World => w'.cell? ⟨W.heap.size, 0, none⟩ = some (.int .i64 x.1) ∧ w'.cell? ⟨W.heap.size, 1, none⟩ = some (.int .i64 x.2) ∧ w'.cell? ⟨W.heap.size + 1, 0, none⟩ = some (.int .i64 y.1) ∧ w'.cell? ⟨W.heap.size + 1, 1, none⟩ = some (.int .i64 y.2) ∧ Below W.heap.size W w') hk1.out (s_may HX.out _) ⟨k0, k1, k2, k3, kb⟩).mono ?_
  clear k0 k1 k2 k3 kb
  rintro e w2 ⟨rfl, k0, k1, k2, k3, kb⟩
  go_wp2_with fail
  refine (keepS (fun w' : World => w'.cell? ⟨W.heap.size, 0, none⟩ = some (.int .i64 x.1) ∧ w'.cell? ⟨W.heap.size, 1, none⟩ = some (.int .i64 x.2) ∧ w'.cell? ⟨W.heap.size + 1, 0, none⟩ = some (.int .i64 y.1) ∧ w'.cell? ⟨W.heap.size + 1, 1, none⟩ = some (.int .i64 y.2) ∧ Below W.heap.size W w') hk1.out (s_may HY.out _) ⟨k0, k1, k2, k3, kb⟩).mono ?_
  clear k0 k1 k2 k3 kb
  rintro e w3 ⟨rfl, k0, k1, k2, k3, kb⟩
  have gb10 : Below w3.heap.size w3 (w3.alloc (.cells #[.int .i64 1, .int .i64 0] 23)) := (Below.refl _ _).alloc (Nat.le_refl _) _
  replace k0 := below_cell gb10 k0
  replace k1 := below_cell gb10 k1
  replace k2 := below_cell gb10 k2
  replace k3 := below_cell gb10 k3
  replace kb := grow_trans kb gb10
  obtain ⟨k4, k5, _, _⟩ := (EBox.new w3 1 0).facts
  clear gb10
  obtain ⟨C3, hC3⟩ : ∃ C, w3.heap.size = C := ⟨_, rfl⟩
  rw [hC3] at k4 k5
  have hk2 := Lib.hid (show ∀ a b : World, (fun w' : World => w'.cell? ⟨W.heap.size, 0, none⟩ = some (.int .i64 x.1) ∧ w'.cell? ⟨W.heap.size, 1, none⟩ = some (.int .i64 x.2) ∧ w'.cell? ⟨W.heap.size + 1, 0, none⟩ = some (.int .i64 y.1) ∧ w'.cell? ⟨W.heap.size + 1, 1, none⟩ = some (.int .i64 y.2) ∧ w'.cell? ⟨C3, 0, none⟩ = some (.int .i64 1) ∧ w'.cell? ⟨C3, 1, none⟩ = some (.int .i64 0) ∧ Below W.heap.size W w') a → Below a.heap.size a b → (fun w' : World => w'.cell? ⟨W.heap.size, 0, none⟩ = some (.int .i64 x.1) ∧ w'.cell? ⟨W.heap.size, 1, none⟩ = some (.int .i64 x.2) ∧ w'.cell? ⟨W.heap.size + 1, 0, none⟩ = some (.int .i64 y.1) ∧ w'.cell? ⟨W.heap.size + 1, 1, none⟩ = some (.int .i64 y.2) ∧ w'.cell? ⟨C3, 0, none⟩ = some (.int .i64 1) ∧ w'.cell? ⟨C3, 1, none⟩ = some (.int .i64 0) ∧ Below W.heap.size W w') b from fun a b ⟨k0, k1, k2, k3, k4, k5, kb⟩ h => ⟨below_cell h k0, below_cell h k1, below_cell h k2, below_cell h k3, below_cell h k4, below_cell h k5, grow_trans kb h⟩)
  have gb21 : Below (w3.alloc (.cells #[.int .i64 1, .int .i64 0] 23)).heap.size (w3.alloc (.cells #[.int .i64 1, .int .i64 0] 23)) ((w3.alloc (.cells #[.int .i64 1, .int .i64 0] 23)).alloc (.cells #[.int .i64 0, .int .i64 0] 23)) := (Below.refl _ _).alloc (Nat.le_refl _) _
  replace k0 := below_cell gb21 k0
  replace k1 := below_cell gb21 k1
  replace k2 := below_cell gb21 k2
  replace k3 := below_cell gb21 k3
  replace k4 := below_cell gb21 k4
  replace k5 := below_cell gb21 k5
  replace kb := grow_trans kb gb21
  obtain ⟨k6, k7, _, _⟩ := (EBox.new (w3.alloc (.cells #[.int .i64 1, .int .i64 0] 23)) 0 0).facts
  clear gb21
  simp only [World.size_alloc] at k6 k7
  rw [hC3] at k6 k7
  have hk3 := Lib.hid (show ∀ a b : World, (fun w' : World => w'.cell? ⟨W.heap.size, 0, none⟩ = some (.int .i64 x.1) ∧ w'.cell? ⟨W.heap.size, 1, none⟩ = some (.int .i64 x.2) ∧ w'.cell? ⟨W.heap.size + 1, 0, none⟩ = some (.int .i64 y.1) ∧ w'.cell? ⟨W.heap.size + 1, 1, none⟩ = some (.int .i64 y.2) ∧ w'.cell? ⟨C3, 0, none⟩ = some (.int .i64 1) ∧ w'.cell? ⟨C3, 1, none⟩ = some (.int .i64 0) ∧ w'.cell? ⟨C3 + 1, 0, none⟩ = some (.int .i64 0) ∧ w'.cell? ⟨C3 + 1, 1, none⟩ = some (.int .i64 0) ∧ Below W.heap.size W w') a → Below a.heap.size a b → (fun w' : World => w'.cell? ⟨W.heap.size, 0, none⟩ = some (.int .i64 x.1) ∧ w'.cell? ⟨W.heap.size, 1, none⟩ = some (.int .i64 x.2) ∧ w'.cell? ⟨W.heap.size + 1, 0, none⟩ = some (.int .i64 y.1) ∧ w'.cell? ⟨W.heap.size + 1, 1, none⟩ = some (.int .i64 y.2) ∧ w'.cell? ⟨C3, 0, none⟩ = some (.int .i64 1) ∧ w'.cell? ⟨C3, 1, none⟩ = some (.int .i64 0) ∧ w'.cell? ⟨C3 + 1, 0, none⟩ = some (.int .i64 0) ∧ w'.cell? ⟨C3 + 1, 1, none⟩ = some (.int .i64 0) ∧ Below W.heap.size W w') b from fun a b ⟨k0, k1, k2, k3, k4, k5, k6, k7, kb⟩ h => ⟨below_cell h k0, below_cell h k1, below_cell h k2, below_cell h k3, below_cell h k4, below_cell h k5, below_cell h k6, below_cell h k7, grow_trans kb h⟩)
  go_wp2_with fail
  refine (keepS (fun w' : World => w'.cell? ⟨W.heap.size, 0, none⟩ = some (.int .i64 x.1) ∧ w'.cell? ⟨W.heap.size, 1, none⟩ = some (.int .i64 x.2) ∧ w'.cell? ⟨W.heap.size + 1, 0, none⟩ = some (.int .i64 y.1) ∧ w'.cell? ⟨W.heap.size + 1, 1, none⟩ = some (.int .i64 y.2) ∧ w'.cell? ⟨C3, 0, none⟩ = some (.int .i64 1) ∧ w'.cell? ⟨C3, 1, none⟩ = some (.int .i64 0) ∧ w'.cell? ⟨C3 + 1, 0, none⟩ = some (.int .i64 0) ∧ w'.cell? ⟨C3 + 1, 1, none⟩ = some (.int .i64 0) ∧ Below W.heap.size W w') hk3.out (s_inv HZ.out _) ⟨k0, k1, k2, k3, k4, k5, k6, k7, kb⟩).mono ?_
  clear k0 k1 k2 k3 k4 k5 k6 k7 kb
  rintro e w4 ⟨rfl, k0, k1, k2, k3, k4, k5, k6, k7, kb⟩
  have gb30 : Below w4.heap.size w4 (w4.alloc (.cells #[.int .i64 0, .int .i64 0] 23)) := (Below.refl _ _).alloc (Nat.le_refl _) _
  replace k0 := below_cell gb30 k0
  replace k1 := below_cell gb30 k1
  replace k2 := below_cell gb30 k2
  replace k3 := below_cell gb30 k3
  replace k4 := below_cell gb30 k4
  replace k5 := below_cell gb30 k5
  replace k6 := below_cell gb30 k6
  replace k7 := below_cell gb30 k7
  replace kb := grow_trans kb gb30
  obtain ⟨k8, k9, _, _⟩ := (EBox.new w4 0 0).facts
  clear gb30
  obtain ⟨C4, hC4⟩ : ∃ C, w4.heap.size = C := ⟨_, rfl⟩
  rw [hC4] at k8 k9
  have hk4 := Lib.hid (show ∀ a b : World, (fun w' : World => w'.cell? ⟨W.heap.size, 0, none⟩ = some (.int .i64 x.1) ∧ w'.cell? ⟨W.heap.size, 1, none⟩ = some (.int .i64 x.2) ∧ w'.cell? ⟨W.heap.size + 1, 0, none⟩ = some (.int .i64 y.1) ∧ w'.cell? ⟨W.heap.size + 1, 1, none⟩ = some (.int .i64 y.2) ∧ w'.cell? ⟨C3, 0, none⟩ = some (.int .i64 1) ∧ w'.cell? ⟨C3, 1, none⟩ = some (.int .i64 0) ∧ w'.cell? ⟨C3 + 1, 0, none⟩ = some (.int .i64 0) ∧ w'.cell? ⟨C3 + 1, 1, none⟩ = some (.int .i64 0) ∧ w'.cell? ⟨C4, 0, none⟩ = some (.int .i64 0) ∧ w'.cell? ⟨C4, 1, none⟩ = some (.int .i64 0) ∧ Below W.heap.size W w') a → Below a.heap.size a b → (fun w' : World => w'.cell? ⟨W.heap.size, 0, none⟩ = some (.int .i64 x.1) ∧ w'.cell? ⟨W.heap.size, 1, none⟩ = some (.int .i64 x.2) ∧ w'.cell? ⟨W.heap.size + 1, 0, none⟩ = some (.int .i64 y.1) ∧ w'.cell? ⟨W.heap.size + 1, 1, none⟩ = some (.int .i64 y.2) ∧ w'.cell? ⟨C3, 0, none⟩ = some (.int .i64 1) ∧ w'.cell? ⟨C3, 1, none⟩ = some (.int .i64 0) ∧ w'.cell? ⟨C3 + 1, 0, none⟩ = some (.int .i64 0) ∧ w'.cell? ⟨C3 + 1, 1, none⟩ = some (.int .i64 0) ∧ w'.cell? ⟨C4, 0, none⟩ = some (.int .i64 0) ∧ w'.cell? ⟨C4, 1, none⟩ = some (.int .i64 0) ∧ Below W.heap.size W w') b from fun a b ⟨k0, k1, k2, k3, k4, k5, k6, k7, k8, k9, kb⟩ h => ⟨below_cell h k0, below_cell h k1, below_cell h k2, below_cell h k3, below_cell h k4, below_cell h k5, below_cell h k6, below_cell h k7, below_cell h k8, below_cell h k9, grow_trans kb h⟩)
  go_wp2_with fail
  go_ret
  exact ⟨rfl, kb⟩
theorem gaussField_core (x y : Ga.E) (W : World) :
    Calls Try.prog 8 #[elv x, elv y] W fun e W' => e = .returned (.bool true) ∧ Below W.heap.size W W' := by
  cases hx : Ga.ok x with
  | false => exact gaussField_0 x y hx W
  | true =>
    cases hy : Ga.ok y with
    | false => exact gaussField_1 x y hx hy W
    | true =>
      by_cases h0 : x = (0, 0)
      · exact gaussField_nil x y hx hy h0 W
      · by_cases h1 : Ga.mul x y = (1, 0)
        · have hy1 := Ga.inv_unique hx hy h0 h1
          have hne : y ≠ (0, 0) := fun e => by rw [e, Ga.mul_zero hx] at h1; cases h1
          exact gaussField_true_false x y hx hy h0 ⟨h1, hy1⟩ ⟨by rw [h1]; decide, hne⟩ W
        · have hy1 : y ≠ (Ga.inv x).1 := fun e => h1 (by rw [e]; exact (Ga.inv_mul hx h0).2.2)
          by_cases h2 : y = (0, 0)
          · exact gaussField_false_true x y hx hy h0 ⟨h1, hy1⟩ ⟨by rw [h2]; exact Ga.mul_zero hx, h2⟩ W
          · exact gaussField_false_false x y hx hy h0 ⟨h1, hy1⟩ ⟨fun e => h2 (Ga.mul_nil hx hy h0 e), h2⟩ W

theorem gaussField_walk {H : Type} (enc : TypeId × Value → H) (W : World) (base : Nat) (v0 : Value) (v1 : Value) (d0 : DataW H) (d1 : DataW H) (p0 : List MemPlace) (p1 : List MemPlace)
    (h0 : DataW.Trod enc Try.prog W 0 (fun _ => true) true 23 v0 d0 p0) (o0 : Value.okWide Try.prog W .any base 23 v0)
    (h1 : DataW.Trod enc Try.prog W 0 (fun _ => true) true 23 v1 d1 p1) (o1 : Value.okWide Try.prog W .any base 23 v1)
    (_hsz : (DataW.weightsEach Try.prog [23, 23] [d0, d1]).all (· ≤ reachBytes) = true) :
    Calls Try.prog 8 #[v0, v1] W fun e W' => e = .returned (.bool true) ∧ Below W.heap.size W W' := by
  obtain ⟨a0, b0, rfl⟩ := open_elem o0 h0
  obtain ⟨a1, b1, rfl⟩ := open_elem o1 h1
  exact gaussField_core (a0, b0) (a1, b1) W
end Go.Proofs.Ytbpbpmfipgbcjaa
