/- GaussRing: the walk. -/
import Derived.Test.YtbpbpmfipgbcjaaGaussIface
import Derived.Test.YtbpbpmfipgbcjaaGaussField2
import Derived.Test.YtbpbpmfipgbcjaaOpenEl
import Derived.Deep.DeepCutAuto
namespace Go.Proofs.Ytbpbpmfipgbcjaa
open Go.RowKit Go.ChangeShapes Go.WideShapes Go.ChangeAt

attribute [local go_sem] build_el build_el0 build_el1 build_el2 guard_el eqE_self
attribute [local go_sem ↓] eq_elE

set_option maxHeartbeats 4000000 in
set_option maxRecDepth 100000 in
theorem gaussRing_0 (x y z : Ga.E) (hx : Ga.ok x = false) (W : World) :
    Calls Try.prog 7 #[elv x, elv y, elv z] W fun e W' => e = .returned (.bool true) ∧ Below W.heap.size W W' := by
  obtain ⟨mf, hmf'⟩ : ∃ f : Ga.E → Ga.E → Ga.E, ∀ a b, Ga.mul a b = f a b := ⟨Ga.mul, fun _ _ => rfl⟩
  have HMF := Lib.hid hmf'
  obtain ⟨af, haf'⟩ : ∃ f : Ga.E → Ga.E → Ga.E, ∀ a b, Ga.add a b = f a b := ⟨Ga.add, fun _ _ => rfl⟩
  have HAF := Lib.hid haf'
  have e1 : eqE (af x y).1 (af x y).2 (af y x).1 (af y x).2 = true := eqE_eq (by rw [← haf', ← haf', Ga.add_comm])
  have e2 : eqE (mf x y).1 (mf x y).2 (mf y x).1 (mf y x).2 = true := eqE_eq (by rw [← hmf', ← hmf', Ga.mul_comm])
  have HX := Lib.hid hx
  clear hmf' haf' hx
  go_enter Try.func7, Try.ntmps7
  go_wp2_with fail
  refine (gaShown_any _).mono ?_
  rintro e w1 ⟨rfl, h1⟩
  have x0 := (((EBox.new W x.1 x.2).alloc (.cells #[.int .i64 y.1, .int .i64 y.2] 23)).alloc (.cells #[.int .i64 z.1, .int .i64 z.2] 23)).kept h1
  obtain ⟨k0, k1, _, _⟩ := x0.facts
  have x1 := ((EBox.new (W.alloc (.cells #[.int .i64 x.1, .int .i64 x.2] 23)) y.1 y.2).alloc (.cells #[.int .i64 z.1, .int .i64 z.2] 23)).kept h1
  simp only [World.size_alloc] at x1
  obtain ⟨k2, k3, _, _⟩ := x1.facts
  have x2 := (EBox.new ((W.alloc (.cells #[.int .i64 x.1, .int .i64 x.2] 23)).alloc (.cells #[.int .i64 y.1, .int .i64 y.2] 23)) z.1 z.2).kept h1
  simp only [World.size_alloc] at x2
  obtain ⟨k4, k5, _, _⟩ := x2.facts
  have kb : Below W.heap.size W w1 := ((((Below.refl _ W).alloc (Nat.le_refl _) _).alloc (by simp) _).alloc (by simp; omega) _).trans (h1.mono (by simp; omega))
  clear h1 x0 x1 x2
  have hk1 : ∀ a b : World, (fun w' : World => w'.cell? ⟨W.heap.size, 0, none⟩ = some (.int .i64 x.1) ∧ w'.cell? ⟨W.heap.size, 1, none⟩ = some (.int .i64 x.2) ∧ w'.cell? ⟨W.heap.size + 1, 0, none⟩ = some (.int .i64 y.1) ∧ w'.cell? ⟨W.heap.size + 1, 1, none⟩ = some (.int .i64 y.2) ∧ w'.cell? ⟨W.heap.size + 1 + 1, 0, none⟩ = some (.int .i64 z.1) ∧ w'.cell? ⟨W.heap.size + 1 + 1, 1, none⟩ = some (.int .i64 z.2) ∧ Below W.heap.size W w') a → Below a.heap.size a b → (fun w' : World => w'.cell? ⟨W.heap.size, 0, none⟩ = some (.int .i64 x.1) ∧ w'.cell? ⟨W.heap.size, 1, none⟩ = some (.int .i64 x.2) ∧ w'.cell? ⟨W.heap.size + 1, 0, none⟩ = some (.int .i64 y.1) ∧ w'.cell? ⟨W.heap.size + 1, 1, none⟩ = some (.int .i64 y.2) ∧ w'.cell? ⟨W.heap.size + 1 + 1, 0, none⟩ = some (.int .i64 z.1) ∧ w'.cell? ⟨W.heap.size + 1 + 1, 1, none⟩ = some (.int .i64 z.2) ∧ Below W.heap.size W w') b := fun a b ⟨k0, k1, k2, k3, k4, k5, kb⟩ h => ⟨below_cell h k0, below_cell h k1, below_cell h k2, below_cell h k3, below_cell h k4, below_cell h k5, grow_trans kb h⟩
  go_wp2_with fail
  go_upto_region 2 with fail
  go_cut [8] (fun s8 wx => s8 = .bool true ∧ (fun w' : World => w'.cell? ⟨W.heap.size, 0, none⟩ = some (.int .i64 x.1) ∧ w'.cell? ⟨W.heap.size, 1, none⟩ = some (.int .i64 x.2) ∧ w'.cell? ⟨W.heap.size + 1, 0, none⟩ = some (.int .i64 y.1) ∧ w'.cell? ⟨W.heap.size + 1, 1, none⟩ = some (.int .i64 y.2) ∧ w'.cell? ⟨W.heap.size + 1 + 1, 0, none⟩ = some (.int .i64 z.1) ∧ w'.cell? ⟨W.heap.size + 1 + 1, 1, none⟩ = some (.int .i64 z.2) ∧ Below W.heap.size W w') wx)
  case first =>
    go_region_held3 (fun w' : World => w'.cell? ⟨W.heap.size, 0, none⟩ = some (.int .i64 x.1) ∧ w'.cell? ⟨W.heap.size, 1, none⟩ = some (.int .i64 x.2) ∧ w'.cell? ⟨W.heap.size + 1, 0, none⟩ = some (.int .i64 y.1) ∧ w'.cell? ⟨W.heap.size + 1, 1, none⟩ = some (.int .i64 y.2) ∧ w'.cell? ⟨W.heap.size + 1 + 1, 0, none⟩ = some (.int .i64 z.1) ∧ w'.cell? ⟨W.heap.size + 1 + 1, 1, none⟩ = some (.int .i64 z.2) ∧ Below W.heap.size W w')
      (first | assumption | exact ⟨by assumption, by assumption, by assumption, by assumption, by assumption, by assumption, by first | assumption | exact Below.drew (by assumption)⟩)
      (first
        | (go_at_call 16; refine (keepS (fun w' : World => w'.cell? ⟨W.heap.size, 0, none⟩ = some (.int .i64 x.1) ∧ w'.cell? ⟨W.heap.size, 1, none⟩ = some (.int .i64 x.2) ∧ w'.cell? ⟨W.heap.size + 1, 0, none⟩ = some (.int .i64 y.1) ∧ w'.cell? ⟨W.heap.size + 1, 1, none⟩ = some (.int .i64 y.2) ∧ w'.cell? ⟨W.heap.size + 1 + 1, 0, none⟩ = some (.int .i64 z.1) ∧ w'.cell? ⟨W.heap.size + 1 + 1, 1, none⟩ = some (.int .i64 z.2) ∧ Below W.heap.size W w') hk1 (padd_eq (HAF.out _ _) _) (by assumption)).mono ?_; rintro e w' ⟨rfl, kS⟩)
        | (go_at_call 20; refine (keepS (fun w' : World => w'.cell? ⟨W.heap.size, 0, none⟩ = some (.int .i64 x.1) ∧ w'.cell? ⟨W.heap.size, 1, none⟩ = some (.int .i64 x.2) ∧ w'.cell? ⟨W.heap.size + 1, 0, none⟩ = some (.int .i64 y.1) ∧ w'.cell? ⟨W.heap.size + 1, 1, none⟩ = some (.int .i64 y.2) ∧ w'.cell? ⟨W.heap.size + 1 + 1, 0, none⟩ = some (.int .i64 z.1) ∧ w'.cell? ⟨W.heap.size + 1 + 1, 1, none⟩ = some (.int .i64 z.2) ∧ Below W.heap.size W w') hk1 (pmul_eq (HMF.out _ _) _) (by assumption)).mono ?_; rintro e w' ⟨rfl, kS⟩))
    all_goals (go_wp2_with fail; go_meet; exact ⟨rfl, by assumption⟩)
  case rest =>
    clear k0 k1 k2 k3 k4 k5 kb
    obtain ⟨rfl, k0, k1, k2, k3, k4, k5, kb⟩ := hcut
    go_wp2_with fail
    refine (keepS (fun w' : World => w'.cell? ⟨W.heap.size, 0, none⟩ = some (.int .i64 x.1) ∧ w'.cell? ⟨W.heap.size, 1, none⟩ = some (.int .i64 x.2) ∧ w'.cell? ⟨W.heap.size + 1, 0, none⟩ = some (.int .i64 y.1) ∧ w'.cell? ⟨W.heap.size + 1, 1, none⟩ = some (.int .i64 y.2) ∧ w'.cell? ⟨W.heap.size + 1 + 1, 0, none⟩ = some (.int .i64 z.1) ∧ w'.cell? ⟨W.heap.size + 1 + 1, 1, none⟩ = some (.int .i64 z.2) ∧ Below W.heap.size W w') hk1 (s_may HX.out _) ⟨k0, k1, k2, k3, k4, k5, kb⟩).mono ?_
    clear k0 k1 k2 k3 k4 k5 kb
    rintro e w3 ⟨rfl, k0, k1, k2, k3, k4, k5, kb⟩
    go_wp2_with fail
    go_ret
    exact ⟨rfl, kb⟩
set_option maxHeartbeats 4000000 in
set_option maxRecDepth 100000 in
theorem gaussRing_1 (x y z : Ga.E) (hx : Ga.ok x = true) (hy : Ga.ok y = false) (W : World) :
    Calls Try.prog 7 #[elv x, elv y, elv z] W fun e W' => e = .returned (.bool true) ∧ Below W.heap.size W W' := by
  obtain ⟨mf, hmf'⟩ : ∃ f : Ga.E → Ga.E → Ga.E, ∀ a b, Ga.mul a b = f a b := ⟨Ga.mul, fun _ _ => rfl⟩
  have HMF := Lib.hid hmf'
  obtain ⟨af, haf'⟩ : ∃ f : Ga.E → Ga.E → Ga.E, ∀ a b, Ga.add a b = f a b := ⟨Ga.add, fun _ _ => rfl⟩
  have HAF := Lib.hid haf'
  have e1 : eqE (af x y).1 (af x y).2 (af y x).1 (af y x).2 = true := eqE_eq (by rw [← haf', ← haf', Ga.add_comm])
  have e2 : eqE (mf x y).1 (mf x y).2 (mf y x).1 (mf y x).2 = true := eqE_eq (by rw [← hmf', ← hmf', Ga.mul_comm])
  have HX := Lib.hid hx
  have HY := Lib.hid hy
  clear hmf' haf' hx hy
  go_enter Try.func7, Try.ntmps7
  go_wp2_with fail
  refine (gaShown_any _).mono ?_
  rintro e w1 ⟨rfl, h1⟩
  have x0 := (((EBox.new W x.1 x.2).alloc (.cells #[.int .i64 y.1, .int .i64 y.2] 23)).alloc (.cells #[.int .i64 z.1, .int .i64 z.2] 23)).kept h1
  obtain ⟨k0, k1, _, _⟩ := x0.facts
  have x1 := ((EBox.new (W.alloc (.cells #[.int .i64 x.1, .int .i64 x.2] 23)) y.1 y.2).alloc (.cells #[.int .i64 z.1, .int .i64 z.2] 23)).kept h1
  simp only [World.size_alloc] at x1
  obtain ⟨k2, k3, _, _⟩ := x1.facts
  have x2 := (EBox.new ((W.alloc (.cells #[.int .i64 x.1, .int .i64 x.2] 23)).alloc (.cells #[.int .i64 y.1, .int .i64 y.2] 23)) z.1 z.2).kept h1
  simp only [World.size_alloc] at x2
  obtain ⟨k4, k5, _, _⟩ := x2.facts
  have kb : Below W.heap.size W w1 := ((((Below.refl _ W).alloc (Nat.le_refl _) _).alloc (by simp) _).alloc (by simp; omega) _).trans (h1.mono (by simp; omega))
  clear h1 x0 x1 x2
  have hk1 : ∀ a b : World, (fun w' : World => w'.cell? ⟨W.heap.size, 0, none⟩ = some (.int .i64 x.1) ∧ w'.cell? ⟨W.heap.size, 1, none⟩ = some (.int .i64 x.2) ∧ w'.cell? ⟨W.heap.size + 1, 0, none⟩ = some (.int .i64 y.1) ∧ w'.cell? ⟨W.heap.size + 1, 1, none⟩ = some (.int .i64 y.2) ∧ w'.cell? ⟨W.heap.size + 1 + 1, 0, none⟩ = some (.int .i64 z.1) ∧ w'.cell? ⟨W.heap.size + 1 + 1, 1, none⟩ = some (.int .i64 z.2) ∧ Below W.heap.size W w') a → Below a.heap.size a b → (fun w' : World => w'.cell? ⟨W.heap.size, 0, none⟩ = some (.int .i64 x.1) ∧ w'.cell? ⟨W.heap.size, 1, none⟩ = some (.int .i64 x.2) ∧ w'.cell? ⟨W.heap.size + 1, 0, none⟩ = some (.int .i64 y.1) ∧ w'.cell? ⟨W.heap.size + 1, 1, none⟩ = some (.int .i64 y.2) ∧ w'.cell? ⟨W.heap.size + 1 + 1, 0, none⟩ = some (.int .i64 z.1) ∧ w'.cell? ⟨W.heap.size + 1 + 1, 1, none⟩ = some (.int .i64 z.2) ∧ Below W.heap.size W w') b := fun a b ⟨k0, k1, k2, k3, k4, k5, kb⟩ h => ⟨below_cell h k0, below_cell h k1, below_cell h k2, below_cell h k3, below_cell h k4, below_cell h k5, grow_trans kb h⟩
  go_wp2_with fail
  go_upto_region 2 with fail
  go_cut [8] (fun s8 wx => s8 = .bool true ∧ (fun w' : World => w'.cell? ⟨W.heap.size, 0, none⟩ = some (.int .i64 x.1) ∧ w'.cell? ⟨W.heap.size, 1, none⟩ = some (.int .i64 x.2) ∧ w'.cell? ⟨W.heap.size + 1, 0, none⟩ = some (.int .i64 y.1) ∧ w'.cell? ⟨W.heap.size + 1, 1, none⟩ = some (.int .i64 y.2) ∧ w'.cell? ⟨W.heap.size + 1 + 1, 0, none⟩ = some (.int .i64 z.1) ∧ w'.cell? ⟨W.heap.size + 1 + 1, 1, none⟩ = some (.int .i64 z.2) ∧ Below W.heap.size W w') wx)
  case first =>
    go_region_held3 (fun w' : World => w'.cell? ⟨W.heap.size, 0, none⟩ = some (.int .i64 x.1) ∧ w'.cell? ⟨W.heap.size, 1, none⟩ = some (.int .i64 x.2) ∧ w'.cell? ⟨W.heap.size + 1, 0, none⟩ = some (.int .i64 y.1) ∧ w'.cell? ⟨W.heap.size + 1, 1, none⟩ = some (.int .i64 y.2) ∧ w'.cell? ⟨W.heap.size + 1 + 1, 0, none⟩ = some (.int .i64 z.1) ∧ w'.cell? ⟨W.heap.size + 1 + 1, 1, none⟩ = some (.int .i64 z.2) ∧ Below W.heap.size W w')
      (first | assumption | exact ⟨by assumption, by assumption, by assumption, by assumption, by assumption, by assumption, by first | assumption | exact Below.drew (by assumption)⟩)
      (first
        | (go_at_call 16; refine (keepS (fun w' : World => w'.cell? ⟨W.heap.size, 0, none⟩ = some (.int .i64 x.1) ∧ w'.cell? ⟨W.heap.size, 1, none⟩ = some (.int .i64 x.2) ∧ w'.cell? ⟨W.heap.size + 1, 0, none⟩ = some (.int .i64 y.1) ∧ w'.cell? ⟨W.heap.size + 1, 1, none⟩ = some (.int .i64 y.2) ∧ w'.cell? ⟨W.heap.size + 1 + 1, 0, none⟩ = some (.int .i64 z.1) ∧ w'.cell? ⟨W.heap.size + 1 + 1, 1, none⟩ = some (.int .i64 z.2) ∧ Below W.heap.size W w') hk1 (padd_eq (HAF.out _ _) _) (by assumption)).mono ?_; rintro e w' ⟨rfl, kS⟩)
        | (go_at_call 20; refine (keepS (fun w' : World => w'.cell? ⟨W.heap.size, 0, none⟩ = some (.int .i64 x.1) ∧ w'.cell? ⟨W.heap.size, 1, none⟩ = some (.int .i64 x.2) ∧ w'.cell? ⟨W.heap.size + 1, 0, none⟩ = some (.int .i64 y.1) ∧ w'.cell? ⟨W.heap.size + 1, 1, none⟩ = some (.int .i64 y.2) ∧ w'.cell? ⟨W.heap.size + 1 + 1, 0, none⟩ = some (.int .i64 z.1) ∧ w'.cell? ⟨W.heap.size + 1 + 1, 1, none⟩ = some (.int .i64 z.2) ∧ Below W.heap.size W w') hk1 (pmul_eq (HMF.out _ _) _) (by assumption)).mono ?_; rintro e w' ⟨rfl, kS⟩))
    all_goals (go_wp2_with fail; go_meet; exact ⟨rfl, by assumption⟩)
  case rest =>
    clear k0 k1 k2 k3 k4 k5 kb
    obtain ⟨rfl, k0, k1, k2, k3, k4, k5, kb⟩ := hcut
    go_wp2_with fail
    refine (keepS (fun w' : World => w'.cell? ⟨W.heap.size, 0, none⟩ = some (.int .i64 x.1) ∧ w'.cell? ⟨W.heap.size, 1, none⟩ = some (.int .i64 x.2) ∧ w'.cell? ⟨W.heap.size + 1, 0, none⟩ = some (.int .i64 y.1) ∧ w'.cell? ⟨W.heap.size + 1, 1, none⟩ = some (.int .i64 y.2) ∧ w'.cell? ⟨W.heap.size + 1 + 1, 0, none⟩ = some (.int .i64 z.1) ∧ w'.cell? ⟨W.heap.size + 1 + 1, 1, none⟩ = some (.int .i64 z.2) ∧ Below W.heap.size W w') hk1 (s_may HX.out _) ⟨k0, k1, k2, k3, k4, k5, kb⟩).mono ?_
    clear k0 k1 k2 k3 k4 k5 kb
    rintro e w3 ⟨rfl, k0, k1, k2, k3, k4, k5, kb⟩
    go_wp2_with fail
    refine (keepS (fun w' : World => w'.cell? ⟨W.heap.size, 0, none⟩ = some (.int .i64 x.1) ∧ w'.cell? ⟨W.heap.size, 1, none⟩ = some (.int .i64 x.2) ∧ w'.cell? ⟨W.heap.size + 1, 0, none⟩ = some (.int .i64 y.1) ∧ w'.cell? ⟨W.heap.size + 1, 1, none⟩ = some (.int .i64 y.2) ∧ w'.cell? ⟨W.heap.size + 1 + 1, 0, none⟩ = some (.int .i64 z.1) ∧ w'.cell? ⟨W.heap.size + 1 + 1, 1, none⟩ = some (.int .i64 z.2) ∧ Below W.heap.size W w') hk1 (s_may HY.out _) ⟨k0, k1, k2, k3, k4, k5, kb⟩).mono ?_
    clear k0 k1 k2 k3 k4 k5 kb
    rintro e w4 ⟨rfl, k0, k1, k2, k3, k4, k5, kb⟩
    go_wp2_with fail
    go_ret
    exact ⟨rfl, kb⟩
set_option maxHeartbeats 4000000 in
set_option maxRecDepth 100000 in
theorem gaussRing_2 (x y z : Ga.E) (hx : Ga.ok x = true) (hy : Ga.ok y = true) (hz : Ga.ok z = false) (W : World) :
    Calls Try.prog 7 #[elv x, elv y, elv z] W fun e W' => e = .returned (.bool true) ∧ Below W.heap.size W W' := by
  obtain ⟨mf, hmf'⟩ : ∃ f : Ga.E → Ga.E → Ga.E, ∀ a b, Ga.mul a b = f a b := ⟨Ga.mul, fun _ _ => rfl⟩
  have HMF := Lib.hid hmf'
  obtain ⟨af, haf'⟩ : ∃ f : Ga.E → Ga.E → Ga.E, ∀ a b, Ga.add a b = f a b := ⟨Ga.add, fun _ _ => rfl⟩
  have HAF := Lib.hid haf'
  have e1 : eqE (af x y).1 (af x y).2 (af y x).1 (af y x).2 = true := eqE_eq (by rw [← haf', ← haf', Ga.add_comm])
  have e2 : eqE (mf x y).1 (mf x y).2 (mf y x).1 (mf y x).2 = true := eqE_eq (by rw [← hmf', ← hmf', Ga.mul_comm])
  have HX := Lib.hid hx
  have HY := Lib.hid hy
  have HZ := Lib.hid hz
  clear hmf' haf' hx hy hz
  go_enter Try.func7, Try.ntmps7
  go_wp2_with fail
  refine (gaShown_any _).mono ?_
  rintro e w1 ⟨rfl, h1⟩
  have x0 := (((EBox.new W x.1 x.2).alloc (.cells #[.int .i64 y.1, .int .i64 y.2] 23)).alloc (.cells #[.int .i64 z.1, .int .i64 z.2] 23)).kept h1
  obtain ⟨k0, k1, _, _⟩ := x0.facts
  have x1 := ((EBox.new (W.alloc (.cells #[.int .i64 x.1, .int .i64 x.2] 23)) y.1 y.2).alloc (.cells #[.int .i64 z.1, .int .i64 z.2] 23)).kept h1
  simp only [World.size_alloc] at x1
  obtain ⟨k2, k3, _, _⟩ := x1.facts
  have x2 := (EBox.new ((W.alloc (.cells #[.int .i64 x.1, .int .i64 x.2] 23)).alloc (.cells #[.int .i64 y.1, .int .i64 y.2] 23)) z.1 z.2).kept h1
  simp only [World.size_alloc] at x2
  obtain ⟨k4, k5, _, _⟩ := x2.facts
  have kb : Below W.heap.size W w1 := ((((Below.refl _ W).alloc (Nat.le_refl _) _).alloc (by simp) _).alloc (by simp; omega) _).trans (h1.mono (by simp; omega))
  clear h1 x0 x1 x2
  have hk1 : ∀ a b : World, (fun w' : World => w'.cell? ⟨W.heap.size, 0, none⟩ = some (.int .i64 x.1) ∧ w'.cell? ⟨W.heap.size, 1, none⟩ = some (.int .i64 x.2) ∧ w'.cell? ⟨W.heap.size + 1, 0, none⟩ = some (.int .i64 y.1) ∧ w'.cell? ⟨W.heap.size + 1, 1, none⟩ = some (.int .i64 y.2) ∧ w'.cell? ⟨W.heap.size + 1 + 1, 0, none⟩ = some (.int .i64 z.1) ∧ w'.cell? ⟨W.heap.size + 1 + 1, 1, none⟩ = some (.int .i64 z.2) ∧ Below W.heap.size W w') a → Below a.heap.size a b → (fun w' : World => w'.cell? ⟨W.heap.size, 0, none⟩ = some (.int .i64 x.1) ∧ w'.cell? ⟨W.heap.size, 1, none⟩ = some (.int .i64 x.2) ∧ w'.cell? ⟨W.heap.size + 1, 0, none⟩ = some (.int .i64 y.1) ∧ w'.cell? ⟨W.heap.size + 1, 1, none⟩ = some (.int .i64 y.2) ∧ w'.cell? ⟨W.heap.size + 1 + 1, 0, none⟩ = some (.int .i64 z.1) ∧ w'.cell? ⟨W.heap.size + 1 + 1, 1, none⟩ = some (.int .i64 z.2) ∧ Below W.heap.size W w') b := fun a b ⟨k0, k1, k2, k3, k4, k5, kb⟩ h => ⟨below_cell h k0, below_cell h k1, below_cell h k2, below_cell h k3, below_cell h k4, below_cell h k5, grow_trans kb h⟩
  go_wp2_with fail
  go_upto_region 2 with fail
  go_cut [8] (fun s8 wx => s8 = .bool true ∧ (fun w' : World => w'.cell? ⟨W.heap.size, 0, none⟩ = some (.int .i64 x.1) ∧ w'.cell? ⟨W.heap.size, 1, none⟩ = some (.int .i64 x.2) ∧ w'.cell? ⟨W.heap.size + 1, 0, none⟩ = some (.int .i64 y.1) ∧ w'.cell? ⟨W.heap.size + 1, 1, none⟩ = some (.int .i64 y.2) ∧ w'.cell? ⟨W.heap.size + 1 + 1, 0, none⟩ = some (.int .i64 z.1) ∧ w'.cell? ⟨W.heap.size + 1 + 1, 1, none⟩ = some (.int .i64 z.2) ∧ Below W.heap.size W w') wx)
  case first =>
    go_region_held3 (fun w' : World => w'.cell? ⟨W.heap.size, 0, none⟩ = some (.int .i64 x.1) ∧ w'.cell? ⟨W.heap.size, 1, none⟩ = some (.int .i64 x.2) ∧ w'.cell? ⟨W.heap.size + 1, 0, none⟩ = some (.int .i64 y.1) ∧ w'.cell? ⟨W.heap.size + 1, 1, none⟩ = some (.int .i64 y.2) ∧ w'.cell? ⟨W.heap.size + 1 + 1, 0, none⟩ = some (.int .i64 z.1) ∧ w'.cell? ⟨W.heap.size + 1 + 1, 1, none⟩ = some (.int .i64 z.2) ∧ Below W.heap.size W w')
      (first | assumption | exact ⟨by assumption, by assumption, by assumption, by assumption, by assumption, by assumption, by first | assumption | exact Below.drew (by assumption)⟩)
      (first
        | (go_at_call 16; refine (keepS (fun w' : World => w'.cell? ⟨W.heap.size, 0, none⟩ = some (.int .i64 x.1) ∧ w'.cell? ⟨W.heap.size, 1, none⟩ = some (.int .i64 x.2) ∧ w'.cell? ⟨W.heap.size + 1, 0, none⟩ = some (.int .i64 y.1) ∧ w'.cell? ⟨W.heap.size + 1, 1, none⟩ = some (.int .i64 y.2) ∧ w'.cell? ⟨W.heap.size + 1 + 1, 0, none⟩ = some (.int .i64 z.1) ∧ w'.cell? ⟨W.heap.size + 1 + 1, 1, none⟩ = some (.int .i64 z.2) ∧ Below W.heap.size W w') hk1 (padd_eq (HAF.out _ _) _) (by assumption)).mono ?_; rintro e w' ⟨rfl, kS⟩)
        | (go_at_call 20; refine (keepS (fun w' : World => w'.cell? ⟨W.heap.size, 0, none⟩ = some (.int .i64 x.1) ∧ w'.cell? ⟨W.heap.size, 1, none⟩ = some (.int .i64 x.2) ∧ w'.cell? ⟨W.heap.size + 1, 0, none⟩ = some (.int .i64 y.1) ∧ w'.cell? ⟨W.heap.size + 1, 1, none⟩ = some (.int .i64 y.2) ∧ w'.cell? ⟨W.heap.size + 1 + 1, 0, none⟩ = some (.int .i64 z.1) ∧ w'.cell? ⟨W.heap.size + 1 + 1, 1, none⟩ = some (.int .i64 z.2) ∧ Below W.heap.size W w') hk1 (pmul_eq (HMF.out _ _) _) (by assumption)).mono ?_; rintro e w' ⟨rfl, kS⟩))
    all_goals (go_wp2_with fail; go_meet; exact ⟨rfl, by assumption⟩)
  case rest =>
    clear k0 k1 k2 k3 k4 k5 kb
    obtain ⟨rfl, k0, k1, k2, k3, k4, k5, kb⟩ := hcut
    go_wp2_with fail
    refine (keepS (fun w' : World => w'.cell? ⟨W.heap.size, 0, none⟩ = some (.int .i64 x.1) ∧ w'.cell? ⟨W.heap.size, 1, none⟩ = some (.int .i64 x.2) ∧ w'.cell? ⟨W.heap.size + 1, 0, none⟩ = some (.int .i64 y.1) ∧ w'.cell? ⟨W.heap.size + 1, 1, none⟩ = some (.int .i64 y.2) ∧ w'.cell? ⟨W.heap.size + 1 + 1, 0, none⟩ = some (.int .i64 z.1) ∧ w'.cell? ⟨W.heap.size + 1 + 1, 1, none⟩ = some (.int .i64 z.2) ∧ Below W.heap.size W w') hk1 (s_may HX.out _) ⟨k0, k1, k2, k3, k4, k5, kb⟩).mono ?_
    clear k0 k1 k2 k3 k4 k5 kb
    rintro e w3 ⟨rfl, k0, k1, k2, k3, k4, k5, kb⟩
    go_wp2_with fail
    refine (keepS (fun w' : World => w'.cell? ⟨W.heap.size, 0, none⟩ = some (.int .i64 x.1) ∧ w'.cell? ⟨W.heap.size, 1, none⟩ = some (.int .i64 x.2) ∧ w'.cell? ⟨W.heap.size + 1, 0, none⟩ = some (.int .i64 y.1) ∧ w'.cell? ⟨W.heap.size + 1, 1, none⟩ = some (.int .i64 y.2) ∧ w'.cell? ⟨W.heap.size + 1 + 1, 0, none⟩ = some (.int .i64 z.1) ∧ w'.cell? ⟨W.heap.size + 1 + 1, 1, none⟩ = some (.int .i64 z.2) ∧ Below W.heap.size W w') hk1 (s_may HY.out _) ⟨k0, k1, k2, k3, k4, k5, kb⟩).mono ?_
    clear k0 k1 k2 k3 k4 k5 kb
    rintro e w4 ⟨rfl, k0, k1, k2, k3, k4, k5, kb⟩
    go_wp2_with fail
    refine (keepS (fun w' : World => w'.cell? ⟨W.heap.size, 0, none⟩ = some (.int .i64 x.1) ∧ w'.cell? ⟨W.heap.size, 1, none⟩ = some (.int .i64 x.2) ∧ w'.cell? ⟨W.heap.size + 1, 0, none⟩ = some (.int .i64 y.1) ∧ w'.cell? ⟨W.heap.size + 1, 1, none⟩ = some (.int .i64 y.2) ∧ w'.cell? ⟨W.heap.size + 1 + 1, 0, none⟩ = some (.int .i64 z.1) ∧ w'.cell? ⟨W.heap.size + 1 + 1, 1, none⟩ = some (.int .i64 z.2) ∧ Below W.heap.size W w') hk1 (s_may HZ.out _) ⟨k0, k1, k2, k3, k4, k5, kb⟩).mono ?_
    clear k0 k1 k2 k3 k4 k5 kb
    rintro e w5 ⟨rfl, k0, k1, k2, k3, k4, k5, kb⟩
    go_wp2_with fail
    go_ret
    exact ⟨rfl, kb⟩
set_option maxHeartbeats 4000000 in
set_option maxRecDepth 100000 in
theorem gaussRing_3 (x y z : Ga.E) (hx : Ga.ok x = true) (hy : Ga.ok y = true) (hz : Ga.ok z = true) (W : World) :
    Calls Try.prog 7 #[elv x, elv y, elv z] W fun e W' => e = .returned (.bool true) ∧ Below W.heap.size W W' := by
  obtain ⟨mf, hmf'⟩ : ∃ f : Ga.E → Ga.E → Ga.E, ∀ a b, Ga.mul a b = f a b := ⟨Ga.mul, fun _ _ => rfl⟩
  have HMF := Lib.hid hmf'
  obtain ⟨af, haf'⟩ : ∃ f : Ga.E → Ga.E → Ga.E, ∀ a b, Ga.add a b = f a b := ⟨Ga.add, fun _ _ => rfl⟩
  have HAF := Lib.hid haf'
  obtain ⟨sf, hsf'⟩ : ∃ f : Ga.E → Ga.E → Ga.E, ∀ a b, Ga.sub a b = f a b := ⟨Ga.sub, fun _ _ => rfl⟩
  have HSF := Lib.hid hsf'
  have e1 : eqE (af x y).1 (af x y).2 (af y x).1 (af y x).2 = true := eqE_eq (by rw [← haf', ← haf', Ga.add_comm])
  have e2 : eqE (mf x y).1 (mf x y).2 (mf y x).1 (mf y x).2 = true := eqE_eq (by rw [← hmf', ← hmf', Ga.mul_comm])
  have e3 : eqE (mf (mf x y) z).1 (mf (mf x y) z).2 (mf x (mf y z)).1 (mf x (mf y z)).2 = true := eqE_eq (by simp only [← hmf']; exact Ga.mul_assoc hx hy hz)
  have e4 : eqE (mf x (af y z)).1 (mf x (af y z)).2 (af (mf x y) (mf x z)).1 (af (mf x y) (mf x z)).2 = true := eqE_eq (by simp only [← hmf', ← haf']; exact Ga.mul_add hx hy hz)
  have e5 : eqE (sf (af x y) y).1 (sf (af x y) y).2 (x).1 (x).2 = true := eqE_eq (by rw [← haf', ← hsf']; exact Ga.sub_add hx hy)
  have HX := Lib.hid hx
  have HY := Lib.hid hy
  have HZ := Lib.hid hz
  clear hmf' haf' hsf' hx hy hz
  go_enter Try.func7, Try.ntmps7
  go_wp2_with fail
  refine (gaShown_any _).mono ?_
  rintro e w1 ⟨rfl, h1⟩
  have x0 := (((EBox.new W x.1 x.2).alloc (.cells #[.int .i64 y.1, .int .i64 y.2] 23)).alloc (.cells #[.int .i64 z.1, .int .i64 z.2] 23)).kept h1
  obtain ⟨k0, k1, _, _⟩ := x0.facts
  have x1 := ((EBox.new (W.alloc (.cells #[.int .i64 x.1, .int .i64 x.2] 23)) y.1 y.2).alloc (.cells #[.int .i64 z.1, .int .i64 z.2] 23)).kept h1
  simp only [World.size_alloc] at x1
  obtain ⟨k2, k3, _, _⟩ := x1.facts
  have x2 := (EBox.new ((W.alloc (.cells #[.int .i64 x.1, .int .i64 x.2] 23)).alloc (.cells #[.int .i64 y.1, .int .i64 y.2] 23)) z.1 z.2).kept h1
  simp only [World.size_alloc] at x2
  obtain ⟨k4, k5, _, _⟩ := x2.facts
  have kb : Below W.heap.size W w1 := ((((Below.refl _ W).alloc (Nat.le_refl _) _).alloc (by simp) _).alloc (by simp; omega) _).trans (h1.mono (by simp; omega))
  clear h1 x0 x1 x2
  have hk1 : ∀ a b : World, (fun w' : World => w'.cell? ⟨W.heap.size, 0, none⟩ = some (.int .i64 x.1) ∧ w'.cell? ⟨W.heap.size, 1, none⟩ = some (.int .i64 x.2) ∧ w'.cell? ⟨W.heap.size + 1, 0, none⟩ = some (.int .i64 y.1) ∧ w'.cell? ⟨W.heap.size + 1, 1, none⟩ = some (.int .i64 y.2) ∧ w'.cell? ⟨W.heap.size + 1 + 1, 0, none⟩ = some (.int .i64 z.1) ∧ w'.cell? ⟨W.heap.size + 1 + 1, 1, none⟩ = some (.int .i64 z.2) ∧ Below W.heap.size W w') a → Below a.heap.size a b → (fun w' : World => w'.cell? ⟨W.heap.size, 0, none⟩ = some (.int .i64 x.1) ∧ w'.cell? ⟨W.heap.size, 1, none⟩ = some (.int .i64 x.2) ∧ w'.cell? ⟨W.heap.size + 1, 0, none⟩ = some (.int .i64 y.1) ∧ w'.cell? ⟨W.heap.size + 1, 1, none⟩ = some (.int .i64 y.2) ∧ w'.cell? ⟨W.heap.size + 1 + 1, 0, none⟩ = some (.int .i64 z.1) ∧ w'.cell? ⟨W.heap.size + 1 + 1, 1, none⟩ = some (.int .i64 z.2) ∧ Below W.heap.size W w') b := fun a b ⟨k0, k1, k2, k3, k4, k5, kb⟩ h => ⟨below_cell h k0, below_cell h k1, below_cell h k2, below_cell h k3, below_cell h k4, below_cell h k5, grow_trans kb h⟩
  go_wp2_with fail
  go_upto_region 2 with fail
  go_cut [8] (fun s8 wx => s8 = .bool true ∧ (fun w' : World => w'.cell? ⟨W.heap.size, 0, none⟩ = some (.int .i64 x.1) ∧ w'.cell? ⟨W.heap.size, 1, none⟩ = some (.int .i64 x.2) ∧ w'.cell? ⟨W.heap.size + 1, 0, none⟩ = some (.int .i64 y.1) ∧ w'.cell? ⟨W.heap.size + 1, 1, none⟩ = some (.int .i64 y.2) ∧ w'.cell? ⟨W.heap.size + 1 + 1, 0, none⟩ = some (.int .i64 z.1) ∧ w'.cell? ⟨W.heap.size + 1 + 1, 1, none⟩ = some (.int .i64 z.2) ∧ Below W.heap.size W w') wx)
  case first =>
    go_region_held3 (fun w' : World => w'.cell? ⟨W.heap.size, 0, none⟩ = some (.int .i64 x.1) ∧ w'.cell? ⟨W.heap.size, 1, none⟩ = some (.int .i64 x.2) ∧ w'.cell? ⟨W.heap.size + 1, 0, none⟩ = some (.int .i64 y.1) ∧ w'.cell? ⟨W.heap.size + 1, 1, none⟩ = some (.int .i64 y.2) ∧ w'.cell? ⟨W.heap.size + 1 + 1, 0, none⟩ = some (.int .i64 z.1) ∧ w'.cell? ⟨W.heap.size + 1 + 1, 1, none⟩ = some (.int .i64 z.2) ∧ Below W.heap.size W w')
      (first | assumption | exact ⟨by assumption, by assumption, by assumption, by assumption, by assumption, by assumption, by first | assumption | exact Below.drew (by assumption)⟩)
      (first
        | (go_at_call 16; refine (keepS (fun w' : World => w'.cell? ⟨W.heap.size, 0, none⟩ = some (.int .i64 x.1) ∧ w'.cell? ⟨W.heap.size, 1, none⟩ = some (.int .i64 x.2) ∧ w'.cell? ⟨W.heap.size + 1, 0, none⟩ = some (.int .i64 y.1) ∧ w'.cell? ⟨W.heap.size + 1, 1, none⟩ = some (.int .i64 y.2) ∧ w'.cell? ⟨W.heap.size + 1 + 1, 0, none⟩ = some (.int .i64 z.1) ∧ w'.cell? ⟨W.heap.size + 1 + 1, 1, none⟩ = some (.int .i64 z.2) ∧ Below W.heap.size W w') hk1 (padd_eq (HAF.out _ _) _) (by assumption)).mono ?_; rintro e w' ⟨rfl, kS⟩)
        | (go_at_call 20; refine (keepS (fun w' : World => w'.cell? ⟨W.heap.size, 0, none⟩ = some (.int .i64 x.1) ∧ w'.cell? ⟨W.heap.size, 1, none⟩ = some (.int .i64 x.2) ∧ w'.cell? ⟨W.heap.size + 1, 0, none⟩ = some (.int .i64 y.1) ∧ w'.cell? ⟨W.heap.size + 1, 1, none⟩ = some (.int .i64 y.2) ∧ w'.cell? ⟨W.heap.size + 1 + 1, 0, none⟩ = some (.int .i64 z.1) ∧ w'.cell? ⟨W.heap.size + 1 + 1, 1, none⟩ = some (.int .i64 z.2) ∧ Below W.heap.size W w') hk1 (pmul_eq (HMF.out _ _) _) (by assumption)).mono ?_; rintro e w' ⟨rfl, kS⟩))
    all_goals (go_wp2_with fail; go_meet; exact ⟨rfl, by assumption⟩)
  case rest =>
    clear k0 k1 k2 k3 k4 k5 kb
    obtain ⟨rfl, k0, k1, k2, k3, k4, k5, kb⟩ := hcut
    go_wp2_with fail
    refine (keepS (fun w' : World => w'.cell? ⟨W.heap.size, 0, none⟩ = some (.int .i64 x.1) ∧ w'.cell? ⟨W.heap.size, 1, none⟩ = some (.int .i64 x.2) ∧ w'.cell? ⟨W.heap.size + 1, 0, none⟩ = some (.int .i64 y.1) ∧ w'.cell? ⟨W.heap.size + 1, 1, none⟩ = some (.int .i64 y.2) ∧ w'.cell? ⟨W.heap.size + 1 + 1, 0, none⟩ = some (.int .i64 z.1) ∧ w'.cell? ⟨W.heap.size + 1 + 1, 1, none⟩ = some (.int .i64 z.2) ∧ Below W.heap.size W w') hk1 (s_may HX.out _) ⟨k0, k1, k2, k3, k4, k5, kb⟩).mono ?_
    clear k0 k1 k2 k3 k4 k5 kb
    rintro e w3 ⟨rfl, k0, k1, k2, k3, k4, k5, kb⟩
    go_wp2_with fail
    refine (keepS (fun w' : World => w'.cell? ⟨W.heap.size, 0, none⟩ = some (.int .i64 x.1) ∧ w'.cell? ⟨W.heap.size, 1, none⟩ = some (.int .i64 x.2) ∧ w'.cell? ⟨W.heap.size + 1, 0, none⟩ = some (.int .i64 y.1) ∧ w'.cell? ⟨W.heap.size + 1, 1, none⟩ = some (.int .i64 y.2) ∧ w'.cell? ⟨W.heap.size + 1 + 1, 0, none⟩ = some (.int .i64 z.1) ∧ w'.cell? ⟨W.heap.size + 1 + 1, 1, none⟩ = some (.int .i64 z.2) ∧ Below W.heap.size W w') hk1 (s_may HY.out _) ⟨k0, k1, k2, k3, k4, k5, kb⟩).mono ?_
    clear k0 k1 k2 k3 k4 k5 kb
    rintro e w4 ⟨rfl, k0, k1, k2, k3, k4, k5, kb⟩
    go_wp2_with fail
    refine (keepS (fun w' : World => w'.cell? ⟨W.heap.size, 0, none⟩ = some (.int .i64 x.1) ∧ w'.cell? ⟨W.heap.size, 1, none⟩ = some (.int .i64 x.2) ∧ w'.cell? ⟨W.heap.size + 1, 0, none⟩ = some (.int .i64 y.1) ∧ w'.cell? ⟨W.heap.size + 1, 1, none⟩ = some (.int .i64 y.2) ∧ w'.cell? ⟨W.heap.size + 1 + 1, 0, none⟩ = some (.int .i64 z.1) ∧ w'.cell? ⟨W.heap.size + 1 + 1, 1, none⟩ = some (.int .i64 z.2) ∧ Below W.heap.size W w') hk1 (s_may HZ.out _) ⟨k0, k1, k2, k3, k4, k5, kb⟩).mono ?_
    clear k0 k1 k2 k3 k4 k5 kb
    rintro e w5 ⟨rfl, k0, k1, k2, k3, k4, k5, kb⟩
    go_wp2_with fail
    go_upto_region 5 with fail
    go_cut [9] (fun s9 wx => s9 = .bool true ∧ (fun w' : World => w'.cell? ⟨W.heap.size, 0, none⟩ = some (.int .i64 x.1) ∧ w'.cell? ⟨W.heap.size, 1, none⟩ = some (.int .i64 x.2) ∧ w'.cell? ⟨W.heap.size + 1, 0, none⟩ = some (.int .i64 y.1) ∧ w'.cell? ⟨W.heap.size + 1, 1, none⟩ = some (.int .i64 y.2) ∧ w'.cell? ⟨W.heap.size + 1 + 1, 0, none⟩ = some (.int .i64 z.1) ∧ w'.cell? ⟨W.heap.size + 1 + 1, 1, none⟩ = some (.int .i64 z.2) ∧ Below W.heap.size W w') wx)
    case first =>
      go_region_held3 (fun w' : World => w'.cell? ⟨W.heap.size, 0, none⟩ = some (.int .i64 x.1) ∧ w'.cell? ⟨W.heap.size, 1, none⟩ = some (.int .i64 x.2) ∧ w'.cell? ⟨W.heap.size + 1, 0, none⟩ = some (.int .i64 y.1) ∧ w'.cell? ⟨W.heap.size + 1, 1, none⟩ = some (.int .i64 y.2) ∧ w'.cell? ⟨W.heap.size + 1 + 1, 0, none⟩ = some (.int .i64 z.1) ∧ w'.cell? ⟨W.heap.size + 1 + 1, 1, none⟩ = some (.int .i64 z.2) ∧ Below W.heap.size W w')
        (first | assumption | exact ⟨by assumption, by assumption, by assumption, by assumption, by assumption, by assumption, by first | assumption | exact Below.drew (by assumption)⟩)
        (first
          | (go_at_call 20; refine (keepS (fun w' : World => w'.cell? ⟨W.heap.size, 0, none⟩ = some (.int .i64 x.1) ∧ w'.cell? ⟨W.heap.size, 1, none⟩ = some (.int .i64 x.2) ∧ w'.cell? ⟨W.heap.size + 1, 0, none⟩ = some (.int .i64 y.1) ∧ w'.cell? ⟨W.heap.size + 1, 1, none⟩ = some (.int .i64 y.2) ∧ w'.cell? ⟨W.heap.size + 1 + 1, 0, none⟩ = some (.int .i64 z.1) ∧ w'.cell? ⟨W.heap.size + 1 + 1, 1, none⟩ = some (.int .i64 z.2) ∧ Below W.heap.size W w') hk1 (pmul_eq (HMF.out _ _) _) (by assumption)).mono ?_; rintro e w' ⟨rfl, kS⟩))
      all_goals (go_wp2_with fail; go_meet; exact ⟨rfl, by assumption⟩)
    case rest =>
      clear k0 k1 k2 k3 k4 k5 kb
      obtain ⟨rfl, k0, k1, k2, k3, k4, k5, kb⟩ := hcut
      go_wp2_with fail
      go_upto_region 6 with fail
      go_cut [10] (fun s10 wx => s10 = .bool true ∧ (fun w' : World => w'.cell? ⟨W.heap.size, 0, none⟩ = some (.int .i64 x.1) ∧ w'.cell? ⟨W.heap.size, 1, none⟩ = some (.int .i64 x.2) ∧ w'.cell? ⟨W.heap.size + 1, 0, none⟩ = some (.int .i64 y.1) ∧ w'.cell? ⟨W.heap.size + 1, 1, none⟩ = some (.int .i64 y.2) ∧ w'.cell? ⟨W.heap.size + 1 + 1, 0, none⟩ = some (.int .i64 z.1) ∧ w'.cell? ⟨W.heap.size + 1 + 1, 1, none⟩ = some (.int .i64 z.2) ∧ Below W.heap.size W w') wx)
      case first =>
        go_region_held3 (fun w' : World => w'.cell? ⟨W.heap.size, 0, none⟩ = some (.int .i64 x.1) ∧ w'.cell? ⟨W.heap.size, 1, none⟩ = some (.int .i64 x.2) ∧ w'.cell? ⟨W.heap.size + 1, 0, none⟩ = some (.int .i64 y.1) ∧ w'.cell? ⟨W.heap.size + 1, 1, none⟩ = some (.int .i64 y.2) ∧ w'.cell? ⟨W.heap.size + 1 + 1, 0, none⟩ = some (.int .i64 z.1) ∧ w'.cell? ⟨W.heap.size + 1 + 1, 1, none⟩ = some (.int .i64 z.2) ∧ Below W.heap.size W w')
          (first | assumption | exact ⟨by assumption, by assumption, by assumption, by assumption, by assumption, by assumption, by first | assumption | exact Below.drew (by assumption)⟩)
          (first
            | (go_at_call 16; refine (keepS (fun w' : World => w'.cell? ⟨W.heap.size, 0, none⟩ = some (.int .i64 x.1) ∧ w'.cell? ⟨W.heap.size, 1, none⟩ = some (.int .i64 x.2) ∧ w'.cell? ⟨W.heap.size + 1, 0, none⟩ = some (.int .i64 y.1) ∧ w'.cell? ⟨W.heap.size + 1, 1, none⟩ = some (.int .i64 y.2) ∧ w'.cell? ⟨W.heap.size + 1 + 1, 0, none⟩ = some (.int .i64 z.1) ∧ w'.cell? ⟨W.heap.size + 1 + 1, 1, none⟩ = some (.int .i64 z.2) ∧ Below W.heap.size W w') hk1 (padd_eq (HAF.out _ _) _) (by assumption)).mono ?_; rintro e w' ⟨rfl, kS⟩)
            | (go_at_call 20; refine (keepS (fun w' : World => w'.cell? ⟨W.heap.size, 0, none⟩ = some (.int .i64 x.1) ∧ w'.cell? ⟨W.heap.size, 1, none⟩ = some (.int .i64 x.2) ∧ w'.cell? ⟨W.heap.size + 1, 0, none⟩ = some (.int .i64 y.1) ∧ w'.cell? ⟨W.heap.size + 1, 1, none⟩ = some (.int .i64 y.2) ∧ w'.cell? ⟨W.heap.size + 1 + 1, 0, none⟩ = some (.int .i64 z.1) ∧ w'.cell? ⟨W.heap.size + 1 + 1, 1, none⟩ = some (.int .i64 z.2) ∧ Below W.heap.size W w') hk1 (pmul_eq (HMF.out _ _) _) (by assumption)).mono ?_; rintro e w' ⟨rfl, kS⟩))
        all_goals (go_wp2_with fail; go_meet; exact ⟨rfl, by assumption⟩)
      case rest =>
        clear k0 k1 k2 k3 k4 k5 kb
        obtain ⟨rfl, k0, k1, k2, k3, k4, k5, kb⟩ := hcut
        go_wp2_with fail
        go_upto_region 7 with fail
        go_cut [11] (fun s11 wx => s11 = .bool true ∧ (fun w' : World => w'.cell? ⟨W.heap.size, 0, none⟩ = some (.int .i64 x.1) ∧ w'.cell? ⟨W.heap.size, 1, none⟩ = some (.int .i64 x.2) ∧ w'.cell? ⟨W.heap.size + 1, 0, none⟩ = some (.int .i64 y.1) ∧ w'.cell? ⟨W.heap.size + 1, 1, none⟩ = some (.int .i64 y.2) ∧ w'.cell? ⟨W.heap.size + 1 + 1, 0, none⟩ = some (.int .i64 z.1) ∧ w'.cell? ⟨W.heap.size + 1 + 1, 1, none⟩ = some (.int .i64 z.2) ∧ Below W.heap.size W w') wx)
        case first =>
          go_region_held3 (fun w' : World => w'.cell? ⟨W.heap.size, 0, none⟩ = some (.int .i64 x.1) ∧ w'.cell? ⟨W.heap.size, 1, none⟩ = some (.int .i64 x.2) ∧ w'.cell? ⟨W.heap.size + 1, 0, none⟩ = some (.int .i64 y.1) ∧ w'.cell? ⟨W.heap.size + 1, 1, none⟩ = some (.int .i64 y.2) ∧ w'.cell? ⟨W.heap.size + 1 + 1, 0, none⟩ = some (.int .i64 z.1) ∧ w'.cell? ⟨W.heap.size + 1 + 1, 1, none⟩ = some (.int .i64 z.2) ∧ Below W.heap.size W w')
            (first | assumption | exact ⟨by assumption, by assumption, by assumption, by assumption, by assumption, by assumption, by first | assumption | exact Below.drew (by assumption)⟩)
            (first
              | (go_at_call 16; refine (keepS (fun w' : World => w'.cell? ⟨W.heap.size, 0, none⟩ = some (.int .i64 x.1) ∧ w'.cell? ⟨W.heap.size, 1, none⟩ = some (.int .i64 x.2) ∧ w'.cell? ⟨W.heap.size + 1, 0, none⟩ = some (.int .i64 y.1) ∧ w'.cell? ⟨W.heap.size + 1, 1, none⟩ = some (.int .i64 y.2) ∧ w'.cell? ⟨W.heap.size + 1 + 1, 0, none⟩ = some (.int .i64 z.1) ∧ w'.cell? ⟨W.heap.size + 1 + 1, 1, none⟩ = some (.int .i64 z.2) ∧ Below W.heap.size W w') hk1 (padd_eq (HAF.out _ _) _) (by assumption)).mono ?_; rintro e w' ⟨rfl, kS⟩)
              | (go_at_call 18; refine (keepS (fun w' : World => w'.cell? ⟨W.heap.size, 0, none⟩ = some (.int .i64 x.1) ∧ w'.cell? ⟨W.heap.size, 1, none⟩ = some (.int .i64 x.2) ∧ w'.cell? ⟨W.heap.size + 1, 0, none⟩ = some (.int .i64 y.1) ∧ w'.cell? ⟨W.heap.size + 1, 1, none⟩ = some (.int .i64 y.2) ∧ w'.cell? ⟨W.heap.size + 1 + 1, 0, none⟩ = some (.int .i64 z.1) ∧ w'.cell? ⟨W.heap.size + 1 + 1, 1, none⟩ = some (.int .i64 z.2) ∧ Below W.heap.size W w') hk1 (psub_eq (HSF.out _ _) _) (by assumption)).mono ?_; rintro e w' ⟨rfl, kS⟩))
          all_goals (go_wp2_with fail; go_meet; exact ⟨rfl, by assumption⟩)
        case rest =>
          clear k0 k1 k2 k3 k4 k5 kb
          obtain ⟨rfl, k0, k1, k2, k3, k4, k5, kb⟩ := hcut
          go_wp2_with fail
          go_ret
          exact ⟨rfl, kb⟩
theorem gaussRing_core (x y z : Ga.E) (W : World) :
    Calls Try.prog 7 #[elv x, elv y, elv z] W fun e W' => e = .returned (.bool true) ∧ Below W.heap.size W W' := by
  cases hx : Ga.ok x with
  | false => exact gaussRing_0 x y z hx W
  | true =>
    cases hy : Ga.ok y with
    | false => exact gaussRing_1 x y z hx hy W
    | true =>
      cases hz : Ga.ok z with
      | false => exact gaussRing_2 x y z hx hy hz W
      | true => exact gaussRing_3 x y z hx hy hz W

theorem gaussRing_walk {H : Type} (enc : TypeId × Value → H) (W : World) (base : Nat) (v0 : Value) (v1 : Value) (v2 : Value) (d0 : DataW H) (d1 : DataW H) (d2 : DataW H) (p0 : List MemPlace) (p1 : List MemPlace) (p2 : List MemPlace)
    (h0 : DataW.Trod enc Try.prog W 0 (fun _ => true) true 23 v0 d0 p0) (o0 : Value.okWide Try.prog W .any base 23 v0)
    (h1 : DataW.Trod enc Try.prog W 0 (fun _ => true) true 23 v1 d1 p1) (o1 : Value.okWide Try.prog W .any base 23 v1)
    (h2 : DataW.Trod enc Try.prog W 0 (fun _ => true) true 23 v2 d2 p2) (o2 : Value.okWide Try.prog W .any base 23 v2)
    (_hsz : (DataW.weightsEach Try.prog [23, 23, 23] [d0, d1, d2]).all (· ≤ reachBytes) = true) :
    Calls Try.prog 7 #[v0, v1, v2] W fun e W' => e = .returned (.bool true) ∧ Below W.heap.size W W' := by
  obtain ⟨a0, b0, rfl⟩ := open_elem o0 h0
  obtain ⟨a1, b1, rfl⟩ := open_elem o1 h1
  obtain ⟨a2, b2, rfl⟩ := open_elem o2 h2
  exact gaussRing_core (a0, b0) (a1, b1) (a2, b2) W
end Go.Proofs.Ytbpbpmfipgbcjaa
