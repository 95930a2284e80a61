/- GaussNorms: the walk. -/
import Derived.Test.YtbpbpmfipgbcjaaGaussIface
import Derived.Test.YtbpbpmfipgbcjaaGaussField2
import Derived.Test.YtbpbpmfipgbcjaaOpenEl
import Derived.Deep.DeepCutAuto
namespace Go.Proofs.Ytbpbpmfipgbcjaa
open Go.RowKit Go.ChangeShapes Go.WideShapes Go.ChangeAt

attribute [local go_sem] build_el build_el0 build_el1 build_el2 guard_el eqE_self
attribute [local go_sem ↓] eq_elE

set_option maxHeartbeats 4000000 in
theorem gaussNorms_0 (x y : Ga.E) (hx : Ga.ok x = false) (W : World) :
    Calls Try.prog 9 #[elv x, elv y] W fun e W' => e = .returned (.bool true) ∧ Below W.heap.size W W' := by
  have HX := Lib.hid hx
  clear hx
  go_enter Try.func9, Try.ntmps9
  go_wp2_with fail
  refine (gaShown_any _).mono ?_
  rintro e w1 ⟨rfl, h1⟩
  have x0 := ((EBox.new W x.1 x.2).alloc (.cells #[.int .i64 y.1, .int .i64 y.2] 23)).kept h1
  obtain ⟨k0, k1, _, _⟩ := x0.facts
  have x1 := (EBox.new (W.alloc (.cells #[.int .i64 x.1, .int .i64 x.2] 23)) y.1 y.2).kept h1
  simp only [World.size_alloc] at x1
  obtain ⟨k2, k3, _, _⟩ := x1.facts
  have kb : Below W.heap.size W w1 := (((Below.refl _ W).alloc (Nat.le_refl _) _).alloc (by simp) _).trans (h1.mono (by simp; omega))
  clear h1 x0 x1
  have hk1 : ∀ a b : World, (fun w' : World => w'.cell? ⟨W.heap.size, 0, none⟩ = some (.int .i64 x.1) ∧ w'.cell? ⟨W.heap.size, 1, none⟩ = some (.int .i64 x.2) ∧ w'.cell? ⟨W.heap.size + 1, 0, none⟩ = some (.int .i64 y.1) ∧ w'.cell? ⟨W.heap.size + 1, 1, none⟩ = some (.int .i64 y.2) ∧ Below W.heap.size W w') a → Below a.heap.size a b → (fun w' : World => w'.cell? ⟨W.heap.size, 0, none⟩ = some (.int .i64 x.1) ∧ w'.cell? ⟨W.heap.size, 1, none⟩ = some (.int .i64 x.2) ∧ w'.cell? ⟨W.heap.size + 1, 0, none⟩ = some (.int .i64 y.1) ∧ w'.cell? ⟨W.heap.size + 1, 1, none⟩ = some (.int .i64 y.2) ∧ Below W.heap.size W w') b := fun a b ⟨k0, k1, k2, k3, kb⟩ h => ⟨below_cell h k0, below_cell h k1, below_cell h k2, below_cell h k3, grow_trans kb h⟩
  go_wp2_with fail
  refine (keepS (fun w' : World => w'.cell? ⟨W.heap.size, 0, none⟩ = some (.int .i64 x.1) ∧ w'.cell? ⟨W.heap.size, 1, none⟩ = some (.int .i64 x.2) ∧ w'.cell? ⟨W.heap.size + 1, 0, none⟩ = some (.int .i64 y.1) ∧ w'.cell? ⟨W.heap.size + 1, 1, none⟩ = some (.int .i64 y.2) ∧ Below W.heap.size W w') hk1 (s_may HX.out _) ⟨k0, k1, k2, k3, kb⟩).mono ?_
  clear k0 k1 k2 k3 kb
  rintro e w2 ⟨rfl, k0, k1, k2, k3, kb⟩
  go_wp2_with fail
  go_ret
  exact ⟨rfl, kb⟩
set_option maxHeartbeats 4000000 in
theorem gaussNorms_1 (x y : Ga.E) (hx : Ga.ok x = true) (hy : Ga.ok y = false) (W : World) :
    Calls Try.prog 9 #[elv x, elv y] W fun e W' => e = .returned (.bool true) ∧ Below W.heap.size W W' := by
  have HX := Lib.hid hx
  have HY := Lib.hid hy
  clear hx hy
  go_enter Try.func9, Try.ntmps9
  go_wp2_with fail
  refine (gaShown_any _).mono ?_
  rintro e w1 ⟨rfl, h1⟩
  have x0 := ((EBox.new W x.1 x.2).alloc (.cells #[.int .i64 y.1, .int .i64 y.2] 23)).kept h1
  obtain ⟨k0, k1, _, _⟩ := x0.facts
  have x1 := (EBox.new (W.alloc (.cells #[.int .i64 x.1, .int .i64 x.2] 23)) y.1 y.2).kept h1
  simp only [World.size_alloc] at x1
  obtain ⟨k2, k3, _, _⟩ := x1.facts
  have kb : Below W.heap.size W w1 := (((Below.refl _ W).alloc (Nat.le_refl _) _).alloc (by simp) _).trans (h1.mono (by simp; omega))
  clear h1 x0 x1
  have hk1 : ∀ a b : World, (fun w' : World => w'.cell? ⟨W.heap.size, 0, none⟩ = some (.int .i64 x.1) ∧ w'.cell? ⟨W.heap.size, 1, none⟩ = some (.int .i64 x.2) ∧ w'.cell? ⟨W.heap.size + 1, 0, none⟩ = some (.int .i64 y.1) ∧ w'.cell? ⟨W.heap.size + 1, 1, none⟩ = some (.int .i64 y.2) ∧ Below W.heap.size W w') a → Below a.heap.size a b → (fun w' : World => w'.cell? ⟨W.heap.size, 0, none⟩ = some (.int .i64 x.1) ∧ w'.cell? ⟨W.heap.size, 1, none⟩ = some (.int .i64 x.2) ∧ w'.cell? ⟨W.heap.size + 1, 0, none⟩ = some (.int .i64 y.1) ∧ w'.cell? ⟨W.heap.size + 1, 1, none⟩ = some (.int .i64 y.2) ∧ Below W.heap.size W w') b := fun a b ⟨k0, k1, k2, k3, kb⟩ h => ⟨below_cell h k0, below_cell h k1, below_cell h k2, below_cell h k3, grow_trans kb h⟩
  go_wp2_with fail
  refine (keepS (fun w' : World => w'.cell? ⟨W.heap.size, 0, none⟩ = some (.int .i64 x.1) ∧ w'.cell? ⟨W.heap.size, 1, none⟩ = some (.int .i64 x.2) ∧ w'.cell? ⟨W.heap.size + 1, 0, none⟩ = some (.int .i64 y.1) ∧ w'.cell? ⟨W.heap.size + 1, 1, none⟩ = some (.int .i64 y.2) ∧ Below W.heap.size W w') hk1 (s_may HX.out _) ⟨k0, k1, k2, k3, kb⟩).mono ?_
  clear k0 k1 k2 k3 kb
  rintro e w2 ⟨rfl, k0, k1, k2, k3, kb⟩
  go_wp2_with fail
  refine (keepS (fun w' : World => w'.cell? ⟨W.heap.size, 0, none⟩ = some (.int .i64 x.1) ∧ w'.cell? ⟨W.heap.size, 1, none⟩ = some (.int .i64 x.2) ∧ w'.cell? ⟨W.heap.size + 1, 0, none⟩ = some (.int .i64 y.1) ∧ w'.cell? ⟨W.heap.size + 1, 1, none⟩ = some (.int .i64 y.2) ∧ Below W.heap.size W w') hk1 (s_may HY.out _) ⟨k0, k1, k2, k3, kb⟩).mono ?_
  clear k0 k1 k2 k3 kb
  rintro e w3 ⟨rfl, k0, k1, k2, k3, kb⟩
  go_wp2_with fail
  go_ret
  exact ⟨rfl, kb⟩
set_option maxHeartbeats 4000000 in
theorem gaussNorms_2 (x y : Ga.E) (hx : Ga.ok x = true) (hy : Ga.ok y = true) (hb : 0 < x.2) (W : World) :
    Calls Try.prog 9 #[elv x, elv y] W fun e W' => e = .returned (.bool true) ∧ Below W.heap.size W W' := by
  obtain ⟨mf, hmf'⟩ : ∃ f : Ga.E → Ga.E → Ga.E, ∀ a b, Ga.mul a b = f a b := ⟨Ga.mul, fun _ _ => rfl⟩
  have HMF := Lib.hid hmf'
  obtain ⟨nf, hnf'⟩ : ∃ f : Ga.E → Int, ∀ a, Ga.norm a = f a := ⟨Ga.norm, fun _ => rfl⟩
  have HNF := Lib.hid hnf'
  have r1 := norm_range x
  have r2 := norm_range y
  have hn := Ga.norm_mul hx hy
  rw [hnf'] at r1 r2
  rw [hnf', hnf', hnf', hmf'] at hn
  have pb := prod_bound r1.1 r1.2 r2.1 r2.2
  have hw : IntKind.i64.wrap (nf x * nf y) = nf x * nf y := IntWalk.i64_in _ ⟨by omega, by omega⟩
  have ht : (nf x * nf y).tmod 10007 = nf (mf x y) := by rw [Int.tmod_eq_emod_of_nonneg pb.1]; exact hn.symm
  have hpow : Ga.pow x 10007 = (x.1, 10007 - x.2) := by rw [Ga.pow_prime hx, if_pos hb]
  have hr := (Ga.ok_iff x).1 hx
  obtain ⟨_, _, b1, b2⟩ := hr
  have HX := Lib.hid hx
  have HY := Lib.hid hy
  have HW := Lib.hid hpow
  have tb : decide (0 < x.2) = true := by simpa using hb
  clear hx hy hmf' hnf' hpow hn r1 r2 pb
  go_enter Try.func9, Try.ntmps9
  go_wp2_with fail
  refine (gaShown_any _).mono ?_
  rintro e w1 ⟨rfl, h1⟩
  have x0 := ((EBox.new W x.1 x.2).alloc (.cells #[.int .i64 y.1, .int .i64 y.2] 23)).kept h1
  obtain ⟨k0, k1, _, _⟩ := x0.facts
  have x1 := (EBox.new (W.alloc (.cells #[.int .i64 x.1, .int .i64 x.2] 23)) y.1 y.2).kept h1
  simp only [World.size_alloc] at x1
  obtain ⟨k2, k3, _, _⟩ := x1.facts
  have kb : Below W.heap.size W w1 := (((Below.refl _ W).alloc (Nat.le_refl _) _).alloc (by simp) _).trans (h1.mono (by simp; omega))
  clear h1 x0 x1
  have hk1 : ∀ a b : World, (fun w' : World => w'.cell? ⟨W.heap.size, 0, none⟩ = some (.int .i64 x.1) ∧ w'.cell? ⟨W.heap.size, 1, none⟩ = some (.int .i64 x.2) ∧ w'.cell? ⟨W.heap.size + 1, 0, none⟩ = some (.int .i64 y.1) ∧ w'.cell? ⟨W.heap.size + 1, 1, none⟩ = some (.int .i64 y.2) ∧ Below W.heap.size W w') a → Below a.heap.size a b → (fun w' : World => w'.cell? ⟨W.heap.size, 0, none⟩ = some (.int .i64 x.1) ∧ w'.cell? ⟨W.heap.size, 1, none⟩ = some (.int .i64 x.2) ∧ w'.cell? ⟨W.heap.size + 1, 0, none⟩ = some (.int .i64 y.1) ∧ w'.cell? ⟨W.heap.size + 1, 1, none⟩ = some (.int .i64 y.2) ∧ Below W.heap.size W w') b := fun a b ⟨k0, k1, k2, k3, kb⟩ h => ⟨below_cell h k0, below_cell h k1, below_cell h k2, below_cell h k3, grow_trans kb h⟩
  go_wp2_with fail
  refine (keepS (fun w' : World => w'.cell? ⟨W.heap.size, 0, none⟩ = some (.int .i64 x.1) ∧ w'.cell? ⟨W.heap.size, 1, none⟩ = some (.int .i64 x.2) ∧ w'.cell? ⟨W.heap.size + 1, 0, none⟩ = some (.int .i64 y.1) ∧ w'.cell? ⟨W.heap.size + 1, 1, none⟩ = some (.int .i64 y.2) ∧ Below W.heap.size W w') hk1 (s_may HX.out _) ⟨k0, k1, k2, k3, kb⟩).mono ?_
  clear k0 k1 k2 k3 kb
  rintro e w2 ⟨rfl, k0, k1, k2, k3, kb⟩
  go_wp2_with fail
  refine (keepS (fun w' : World => w'.cell? ⟨W.heap.size, 0, none⟩ = some (.int .i64 x.1) ∧ w'.cell? ⟨W.heap.size, 1, none⟩ = some (.int .i64 x.2) ∧ w'.cell? ⟨W.heap.size + 1, 0, none⟩ = some (.int .i64 y.1) ∧ w'.cell? ⟨W.heap.size + 1, 1, none⟩ = some (.int .i64 y.2) ∧ Below W.heap.size W w') hk1 (s_may HY.out _) ⟨k0, k1, k2, k3, kb⟩).mono ?_
  clear k0 k1 k2 k3 kb
  rintro e w3 ⟨rfl, k0, k1, k2, k3, kb⟩
  go_wp2_with fail
  go_region_held3 (fun w' : World => w'.cell? ⟨W.heap.size, 0, none⟩ = some (.int .i64 x.1) ∧ w'.cell? ⟨W.heap.size, 1, none⟩ = some (.int .i64 x.2) ∧ w'.cell? ⟨W.heap.size + 1, 0, none⟩ = some (.int .i64 y.1) ∧ w'.cell? ⟨W.heap.size + 1, 1, none⟩ = some (.int .i64 y.2) ∧ Below W.heap.size W w')
    (first | assumption | exact ⟨by assumption, by assumption, by assumption, by assumption, by first | assumption | exact Below.drew (by assumption)⟩)
    (first
      | (go_at_call 20; refine (keepS (fun w' : World => w'.cell? ⟨W.heap.size, 0, none⟩ = some (.int .i64 x.1) ∧ w'.cell? ⟨W.heap.size, 1, none⟩ = some (.int .i64 x.2) ∧ w'.cell? ⟨W.heap.size + 1, 0, none⟩ = some (.int .i64 y.1) ∧ w'.cell? ⟨W.heap.size + 1, 1, none⟩ = some (.int .i64 y.2) ∧ Below W.heap.size W w') hk1 (pmul_eq (HMF.out _ _) _) (by assumption)).mono ?_; rintro e w' ⟨rfl, kS⟩)
      | (go_at_call 22; refine (keepS (fun w' : World => w'.cell? ⟨W.heap.size, 0, none⟩ = some (.int .i64 x.1) ∧ w'.cell? ⟨W.heap.size, 1, none⟩ = some (.int .i64 x.2) ∧ w'.cell? ⟨W.heap.size + 1, 0, none⟩ = some (.int .i64 y.1) ∧ w'.cell? ⟨W.heap.size + 1, 1, none⟩ = some (.int .i64 y.2) ∧ Below W.heap.size W w') hk1 (s_norm (HNF.out _) _) (by assumption)).mono ?_; rintro e w' ⟨rfl, kS⟩)
      | (go_at_call 24; refine (keepS (fun w' : World => w'.cell? ⟨W.heap.size, 0, none⟩ = some (.int .i64 x.1) ∧ w'.cell? ⟨W.heap.size, 1, none⟩ = some (.int .i64 x.2) ∧ w'.cell? ⟨W.heap.size + 1, 0, none⟩ = some (.int .i64 y.1) ∧ w'.cell? ⟨W.heap.size + 1, 1, none⟩ = some (.int .i64 y.2) ∧ Below W.heap.size W w') hk1 (s_pow HW.out (by decide) _) (by assumption)).mono ?_; rintro e w' ⟨rfl, kS⟩))
  all_goals (go_wp2_with fail; go_ret; exact ⟨rfl, (show (fun w' : World => w'.cell? ⟨W.heap.size, 0, none⟩ = some (.int .i64 x.1) ∧ w'.cell? ⟨W.heap.size, 1, none⟩ = some (.int .i64 x.2) ∧ w'.cell? ⟨W.heap.size + 1, 0, none⟩ = some (.int .i64 y.1) ∧ w'.cell? ⟨W.heap.size + 1, 1, none⟩ = some (.int .i64 y.2) ∧ Below W.heap.size W w') _ by assumption).2.2.2.2⟩)
set_option maxHeartbeats 4000000 in
theorem gaussNorms_3 (x y : Ga.E) (hx : Ga.ok x = true) (hy : Ga.ok y = true) (hb : ¬ 0 < x.2) (W : World) :
    Calls Try.prog 9 #[elv x, elv y] W fun e W' => e = .returned (.bool true) ∧ Below W.heap.size W W' := by
  obtain ⟨mf, hmf'⟩ : ∃ f : Ga.E → Ga.E → Ga.E, ∀ a b, Ga.mul a b = f a b := ⟨Ga.mul, fun _ _ => rfl⟩
  have HMF := Lib.hid hmf'
  obtain ⟨nf, hnf'⟩ : ∃ f : Ga.E → Int, ∀ a, Ga.norm a = f a := ⟨Ga.norm, fun _ => rfl⟩
  have HNF := Lib.hid hnf'
  have r1 := norm_range x
  have r2 := norm_range y
  have hn := Ga.norm_mul hx hy
  rw [hnf'] at r1 r2
  rw [hnf', hnf', hnf', hmf'] at hn
  have pb := prod_bound r1.1 r1.2 r2.1 r2.2
  have hw : IntKind.i64.wrap (nf x * nf y) = nf x * nf y := IntWalk.i64_in _ ⟨by omega, by omega⟩
  have ht : (nf x * nf y).tmod 10007 = nf (mf x y) := by rw [Int.tmod_eq_emod_of_nonneg pb.1]; exact hn.symm
  have hpow : Ga.pow x 10007 = (x.1, 0) := by rw [Ga.pow_prime hx, if_neg hb]
  have hr := (Ga.ok_iff x).1 hx
  obtain ⟨_, _, b1, b2⟩ := hr
  have HX := Lib.hid hx
  have HY := Lib.hid hy
  have HW := Lib.hid hpow
  have tb : decide (0 < x.2) = false := by simpa using hb
  clear hx hy hmf' hnf' hpow hn r1 r2 pb
  go_enter Try.func9, Try.ntmps9
  go_wp2_with fail
  refine (gaShown_any _).mono ?_
  rintro e w1 ⟨rfl, h1⟩
  have x0 := ((EBox.new W x.1 x.2).alloc (.cells #[.int .i64 y.1, .int .i64 y.2] 23)).kept h1
  obtain ⟨k0, k1, _, _⟩ := x0.facts
  have x1 := (EBox.new (W.alloc (.cells #[.int .i64 x.1, .int .i64 x.2] 23)) y.1 y.2).kept h1
  simp only [World.size_alloc] at x1
  obtain ⟨k2, k3, _, _⟩ := x1.facts
  have kb : Below W.heap.size W w1 := (((Below.refl _ W).alloc (Nat.le_refl _) _).alloc (by simp) _).trans (h1.mono (by simp; omega))
  clear h1 x0 x1
  have hk1 : ∀ a b : World, (fun w' : World => w'.cell? ⟨W.heap.size, 0, none⟩ = some (.int .i64 x.1) ∧ w'.cell? ⟨W.heap.size, 1, none⟩ = some (.int .i64 x.2) ∧ w'.cell? ⟨W.heap.size + 1, 0, none⟩ = some (.int .i64 y.1) ∧ w'.cell? ⟨W.heap.size + 1, 1, none⟩ = some (.int .i64 y.2) ∧ Below W.heap.size W w') a → Below a.heap.size a b → (fun w' : World => w'.cell? ⟨W.heap.size, 0, none⟩ = some (.int .i64 x.1) ∧ w'.cell? ⟨W.heap.size, 1, none⟩ = some (.int .i64 x.2) ∧ w'.cell? ⟨W.heap.size + 1, 0, none⟩ = some (.int .i64 y.1) ∧ w'.cell? ⟨W.heap.size + 1, 1, none⟩ = some (.int .i64 y.2) ∧ Below W.heap.size W w') b := fun a b ⟨k0, k1, k2, k3, kb⟩ h => ⟨below_cell h k0, below_cell h k1, below_cell h k2, below_cell h k3, grow_trans kb h⟩
  go_wp2_with fail
  refine (keepS (fun w' : World => w'.cell? ⟨W.heap.size, 0, none⟩ = some (.int .i64 x.1) ∧ w'.cell? ⟨W.heap.size, 1, none⟩ = some (.int .i64 x.2) ∧ w'.cell? ⟨W.heap.size + 1, 0, none⟩ = some (.int .i64 y.1) ∧ w'.cell? ⟨W.heap.size + 1, 1, none⟩ = some (.int .i64 y.2) ∧ Below W.heap.size W w') hk1 (s_may HX.out _) ⟨k0, k1, k2, k3, kb⟩).mono ?_
  clear k0 k1 k2 k3 kb
  rintro e w2 ⟨rfl, k0, k1, k2, k3, kb⟩
  go_wp2_with fail
  refine (keepS (fun w' : World => w'.cell? ⟨W.heap.size, 0, none⟩ = some (.int .i64 x.1) ∧ w'.cell? ⟨W.heap.size, 1, none⟩ = some (.int .i64 x.2) ∧ w'.cell? ⟨W.heap.size + 1, 0, none⟩ = some (.int .i64 y.1) ∧ w'.cell? ⟨W.heap.size + 1, 1, none⟩ = some (.int .i64 y.2) ∧ Below W.heap.size W w') hk1 (s_may HY.out _) ⟨k0, k1, k2, k3, kb⟩).mono ?_
  clear k0 k1 k2 k3 kb
  rintro e w3 ⟨rfl, k0, k1, k2, k3, kb⟩
  go_wp2_with fail
  go_region_held3 (fun w' : World => w'.cell? ⟨W.heap.size, 0, none⟩ = some (.int .i64 x.1) ∧ w'.cell? ⟨W.heap.size, 1, none⟩ = some (.int .i64 x.2) ∧ w'.cell? ⟨W.heap.size + 1, 0, none⟩ = some (.int .i64 y.1) ∧ w'.cell? ⟨W.heap.size + 1, 1, none⟩ = some (.int .i64 y.2) ∧ Below W.heap.size W w')
    (first | assumption | exact ⟨by assumption, by assumption, by assumption, by assumption, by first | assumption | exact Below.drew (by assumption)⟩)
    (first
      | (go_at_call 20; refine (keepS (fun w' : World => w'.cell? ⟨W.heap.size, 0, none⟩ = some (.int .i64 x.1) ∧ w'.cell? ⟨W.heap.size, 1, none⟩ = some (.int .i64 x.2) ∧ w'.cell? ⟨W.heap.size + 1, 0, none⟩ = some (.int .i64 y.1) ∧ w'.cell? ⟨W.heap.size + 1, 1, none⟩ = some (.int .i64 y.2) ∧ Below W.heap.size W w') hk1 (pmul_eq (HMF.out _ _) _) (by assumption)).mono ?_; rintro e w' ⟨rfl, kS⟩)
      | (go_at_call 22; refine (keepS (fun w' : World => w'.cell? ⟨W.heap.size, 0, none⟩ = some (.int .i64 x.1) ∧ w'.cell? ⟨W.heap.size, 1, none⟩ = some (.int .i64 x.2) ∧ w'.cell? ⟨W.heap.size + 1, 0, none⟩ = some (.int .i64 y.1) ∧ w'.cell? ⟨W.heap.size + 1, 1, none⟩ = some (.int .i64 y.2) ∧ Below W.heap.size W w') hk1 (s_norm (HNF.out _) _) (by assumption)).mono ?_; rintro e w' ⟨rfl, kS⟩)
      | (go_at_call 24; refine (keepS (fun w' : World => w'.cell? ⟨W.heap.size, 0, none⟩ = some (.int .i64 x.1) ∧ w'.cell? ⟨W.heap.size, 1, none⟩ = some (.int .i64 x.2) ∧ w'.cell? ⟨W.heap.size + 1, 0, none⟩ = some (.int .i64 y.1) ∧ w'.cell? ⟨W.heap.size + 1, 1, none⟩ = some (.int .i64 y.2) ∧ Below W.heap.size W w') hk1 (s_pow HW.out (by decide) _) (by assumption)).mono ?_; rintro e w' ⟨rfl, kS⟩))
  all_goals (go_wp2_with fail; go_ret; exact ⟨rfl, (show (fun w' : World => w'.cell? ⟨W.heap.size, 0, none⟩ = some (.int .i64 x.1) ∧ w'.cell? ⟨W.heap.size, 1, none⟩ = some (.int .i64 x.2) ∧ w'.cell? ⟨W.heap.size + 1, 0, none⟩ = some (.int .i64 y.1) ∧ w'.cell? ⟨W.heap.size + 1, 1, none⟩ = some (.int .i64 y.2) ∧ Below W.heap.size W w') _ by assumption).2.2.2.2⟩)
theorem gaussNorms_core (x y : Ga.E) (W : World) :
    Calls Try.prog 9 #[elv x, elv y] W fun e W' => e = .returned (.bool true) ∧ Below W.heap.size W W' := by
  cases hx : Ga.ok x with
  | false => exact gaussNorms_0 x y hx W
  | true =>
    cases hy : Ga.ok y with
    | false => exact gaussNorms_1 x y hx hy W
    | true =>
      by_cases hb : 0 < x.2
      · exact gaussNorms_2 x y hx hy hb W
      · exact gaussNorms_3 x y hx hy hb W

theorem gaussNorms_walk {H : Type} (enc : TypeId × Value → H) (W : World) (base : Nat) (v0 : Value) (v1 : Value) (d0 : DataW H) (d1 : DataW H) (p0 : List MemPlace) (p1 : List MemPlace)
    (h0 : DataW.Trod enc Try.prog W 0 (fun _ => true) true 23 v0 d0 p0) (o0 : Value.okWide Try.prog W .any base 23 v0)
    (h1 : DataW.Trod enc Try.prog W 0 (fun _ => true) true 23 v1 d1 p1) (o1 : Value.okWide Try.prog W .any base 23 v1)
    (_hsz : (DataW.weightsEach Try.prog [23, 23] [d0, d1]).all (· ≤ reachBytes) = true) :
    Calls Try.prog 9 #[v0, v1] W fun e W' => e = .returned (.bool true) ∧ Below W.heap.size W W' := by
  obtain ⟨a0, b0, rfl⟩ := open_elem o0 h0
  obtain ⟨a1, b1, rfl⟩ := open_elem o1 h1
  exact gaussNorms_core (a0, b0) (a1, b1) W
end Go.Proofs.Ytbpbpmfipgbcjaa
