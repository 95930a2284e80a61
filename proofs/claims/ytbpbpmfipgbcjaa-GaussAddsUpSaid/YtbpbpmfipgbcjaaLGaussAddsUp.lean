/- GaussAddsUp: the walk. -/
import Derived.Test.YtbpbpmfipgbcjaaGaussIface
import Derived.Test.YtbpbpmfipgbcjaaKeep
import Derived.Test.YtbpbpmfipgbcjaaGaussField2
import Derived.Test.YtbpbpmfipgbcjaaOpenEl
import Derived.Deep.DeepCutAuto
import Derived.Deep.RegionHeld
namespace Go.Proofs.Ytbpbpmfipgbcjaa
open Go.RowKit Go.ChangeShapes Go.WideShapes Go.ChangeAt

attribute [local go_sem] build_el build_el0 build_el1 build_el2 guard_el eqE_self
attribute [local go_sem ↓] eq_elE

set_option maxHeartbeats 4000000 in
set_option maxRecDepth 100000 in
theorem gaussAddsUp_0 (x : Ga.E) (m n : Nat) (hx : Ga.ok x = false) (W : World) :
    Calls Try.prog 11 #[elv x, .int .u64 m, .int .u64 n] W fun e W' => e = .returned (.bool true) ∧ Below W.heap.size W W' := by
  have HX := Lib.hid hx
  clear hx
  go_enter Try.func11, Try.ntmps11
  go_wp2_with fail
  refine (gaShown_any _).mono ?_
  rintro e w1 ⟨rfl, h1⟩
  have x0 := (EBox.new W x.1 x.2).kept h1
  obtain ⟨k0, k1, _, _⟩ := x0.facts
  have kb : Below W.heap.size W w1 := ((Below.refl _ W).alloc (Nat.le_refl _) _).trans (h1.mono (by simp))
  clear h1 x0
  have hk1 := Lib.hid (show ∀ a b : World, (fun w' : World => w'.cell? ⟨W.heap.size, 0, none⟩ = some (.int .i64 x.1) ∧ w'.cell? ⟨W.heap.size, 1, none⟩ = some (.int .i64 x.2) ∧ Below W.heap.size W w') a → Below a.heap.size a b → (fun w' : World => w'.cell? ⟨W.heap.size, 0, none⟩ = some (.int .i64 x.1) ∧ w'.cell? ⟨W.heap.size, 1, none⟩ = some (.int .i64 x.2) ∧ Below W.heap.size W w') b from fun a b ⟨k0, k1, kb⟩ h => ⟨below_cell h k0, below_cell h k1, grow_trans kb h⟩)
  go_wp2_with fail
  refine (keepS (fun w' : World => w'.cell? ⟨W.heap.size, 0, none⟩ = some (.int .i64 x.1) ∧ w'.cell? ⟨W.heap.size, 1, none⟩ = some (.int .i64 x.2) ∧ Below W.heap.size W w') hk1.out (s_may HX.out _) ⟨k0, k1, kb⟩).mono ?_
  clear k0 k1 kb
  rintro e w2 ⟨rfl, k0, k1, kb⟩
  go_wp2_with fail
  go_ret
  exact ⟨rfl, kb⟩
set_option maxHeartbeats 4000000 in
set_option maxRecDepth 100000 in
theorem gaussAddsUp_1 (x : Ga.E) (m n : Nat) (hx : Ga.ok x = true) (h1 : 1099511627776 < m) (W : World) :
    Calls Try.prog 11 #[elv x, .int .u64 m, .int .u64 n] W fun e W' => e = .returned (.bool true) ∧ Below W.heap.size W W' := by
  have t1 : decide ((1099511627776 : Int) < (m : Int)) = true := by simp; omega
  clear h1
  have HX := Lib.hid hx
  clear hx
  go_enter Try.func11, Try.ntmps11
  go_wp2_with fail
  refine (gaShown_any _).mono ?_
  rintro e w1 ⟨rfl, h1⟩
  have x0 := (EBox.new W x.1 x.2).kept h1
  obtain ⟨k0, k1, _, _⟩ := x0.facts
  have kb : Below W.heap.size W w1 := ((Below.refl _ W).alloc (Nat.le_refl _) _).trans (h1.mono (by simp))
  clear h1 x0
  have hk1 := Lib.hid (show ∀ a b : World, (fun w' : World => w'.cell? ⟨W.heap.size, 0, none⟩ = some (.int .i64 x.1) ∧ w'.cell? ⟨W.heap.size, 1, none⟩ = some (.int .i64 x.2) ∧ Below W.heap.size W w') a → Below a.heap.size a b → (fun w' : World => w'.cell? ⟨W.heap.size, 0, none⟩ = some (.int .i64 x.1) ∧ w'.cell? ⟨W.heap.size, 1, none⟩ = some (.int .i64 x.2) ∧ Below W.heap.size W w') b from fun a b ⟨k0, k1, kb⟩ h => ⟨below_cell h k0, below_cell h k1, grow_trans kb h⟩)
  go_wp2_with fail
  refine (keepS (fun w' : World => w'.cell? ⟨W.heap.size, 0, none⟩ = some (.int .i64 x.1) ∧ w'.cell? ⟨W.heap.size, 1, none⟩ = some (.int .i64 x.2) ∧ Below W.heap.size W w') hk1.out (s_may HX.out _) ⟨k0, k1, kb⟩).mono ?_
  clear k0 k1 kb
  rintro e w2 ⟨rfl, k0, k1, kb⟩
  go_wp2_with fail
  go_ret
  exact ⟨rfl, kb⟩
set_option maxHeartbeats 4000000 in
set_option maxRecDepth 100000 in
theorem gaussAddsUp_2 (x : Ga.E) (m n : Nat) (hx : Ga.ok x = true) (h1 : m ≤ 1099511627776) (h2 : 1099511627776 < n) (W : World) :
    Calls Try.prog 11 #[elv x, .int .u64 m, .int .u64 n] W fun e W' => e = .returned (.bool true) ∧ Below W.heap.size W W' := by
  have t1 : decide ((1099511627776 : Int) < (m : Int)) = false := by simp; omega
  have t2 : decide ((1099511627776 : Int) < (n : Int)) = true := by simp; omega
  clear h1 h2
  have HX := Lib.hid hx
  clear hx
  go_enter Try.func11, Try.ntmps11
  go_wp2_with fail
  refine (gaShown_any _).mono ?_
  rintro e w1 ⟨rfl, h1⟩
  have x0 := (EBox.new W x.1 x.2).kept h1
  obtain ⟨k0, k1, _, _⟩ := x0.facts
  have kb : Below W.heap.size W w1 := ((Below.refl _ W).alloc (Nat.le_refl _) _).trans (h1.mono (by simp))
  clear h1 x0
  have hk1 := Lib.hid (show ∀ a b : World, (fun w' : World => w'.cell? ⟨W.heap.size, 0, none⟩ = some (.int .i64 x.1) ∧ w'.cell? ⟨W.heap.size, 1, none⟩ = some (.int .i64 x.2) ∧ Below W.heap.size W w') a → Below a.heap.size a b → (fun w' : World => w'.cell? ⟨W.heap.size, 0, none⟩ = some (.int .i64 x.1) ∧ w'.cell? ⟨W.heap.size, 1, none⟩ = some (.int .i64 x.2) ∧ Below W.heap.size W w') b from fun a b ⟨k0, k1, kb⟩ h => ⟨below_cell h k0, below_cell h k1, grow_trans kb h⟩)
  go_wp2_with fail
  refine (keepS (fun w' : World => w'.cell? ⟨W.heap.size, 0, none⟩ = some (.int .i64 x.1) ∧ w'.cell? ⟨W.heap.size, 1, none⟩ = some (.int .i64 x.2) ∧ Below W.heap.size W w') hk1.out (s_may HX.out _) ⟨k0, k1, kb⟩).mono ?_
  clear k0 k1 kb
  rintro e w2 ⟨rfl, k0, k1, kb⟩
  go_wp2_with fail
  go_ret
  exact ⟨rfl, kb⟩
set_option maxHeartbeats 4000000 in
set_option maxRecDepth 100000 in
theorem gaussAddsUp_3 (x : Ga.E) (m n : Nat) (hx : Ga.ok x = true) (h0 : x = (0, 0)) (h1 : m ≤ 1099511627776) (h2 : n ≤ 1099511627776) (W : World) :
    Calls Try.prog 11 #[elv x, .int .u64 m, .int .u64 n] W fun e W' => e = .returned (.bool true) ∧ Below W.heap.size W W' := by
  have t1 : decide ((1099511627776 : Int) < (m : Int)) = false := by simp; omega
  have t2 : decide ((1099511627776 : Int) < (n : Int)) = false := by simp; omega
  have e0 : eqE x.1 x.2 0 0 = true := eqE_eq (y := (0, 0)) h0
  obtain ⟨s, hs'⟩ : ∃ s, m + n = s := ⟨_, rfl⟩
  have hw : IntKind.u64.wrap ((m : Int) + (n : Int)) = (s : Int) := by rw [IntWalk.u64_in _ ⟨by omega, by omega⟩]; omega
  have hadd := Ga.pow_add hx m n (by omega)
  rw [hs'] at hadd
  obtain ⟨mf, hmf'⟩ : ∃ f : Ga.E → Ga.E → Ga.E, ∀ a b, Ga.mul a b = f a b := ⟨Ga.mul, fun _ _ => rfl⟩
  have HMF := Lib.hid hmf'
  obtain ⟨pf, hpf'⟩ : ∃ f : Nat → Ga.E, ∀ k, Ga.pow x k = f k := ⟨Ga.pow x, fun _ => rfl⟩
  have HPF := Lib.hid hpf'
  rw [hpf', hpf', hpf', hmf'] at hadd
  obtain ⟨o, ho'⟩ : ∃ w, pf 100140048 = w := ⟨_, rfl⟩
  have HO := Lib.hid ((hpf' _).trans ho')
  have ea : eqE (pf s).1 (pf s).2 (mf (pf m) (pf n)).1 (mf (pf m) (pf n)).2 = true := eqE_eq hadd
  have HX := Lib.hid hx
  have hs1 : s < 18446744073709551616 := by omega
  have hm1 : m < 18446744073709551616 := by omega
  have hn1 : n < 18446744073709551616 := by omega
  clear hx ho' hadd hmf' hpf' hs' h0 h1 h2
  go_enter Try.func11, Try.ntmps11
  go_wp2_with fail
  refine (gaShown_any _).mono ?_
  rintro e w1 ⟨rfl, h1⟩
  have x0 := (EBox.new W x.1 x.2).kept h1
  obtain ⟨k0, k1, _, _⟩ := x0.facts
  have kb : Below W.heap.size W w1 := ((Below.refl _ W).alloc (Nat.le_refl _) _).trans (h1.mono (by simp))
  clear h1 x0
  have hk1 := Lib.hid (show ∀ a b : World, (fun w' : World => w'.cell? ⟨W.heap.size, 0, none⟩ = some (.int .i64 x.1) ∧ w'.cell? ⟨W.heap.size, 1, none⟩ = some (.int .i64 x.2) ∧ Below W.heap.size W w') a → Below a.heap.size a b → (fun w' : World => w'.cell? ⟨W.heap.size, 0, none⟩ = some (.int .i64 x.1) ∧ w'.cell? ⟨W.heap.size, 1, none⟩ = some (.int .i64 x.2) ∧ Below W.heap.size W w') b from fun a b ⟨k0, k1, kb⟩ h => ⟨below_cell h k0, below_cell h k1, grow_trans kb h⟩)
  go_wp2_with fail
  refine (keepS (fun w' : World => w'.cell? ⟨W.heap.size, 0, none⟩ = some (.int .i64 x.1) ∧ w'.cell? ⟨W.heap.size, 1, none⟩ = some (.int .i64 x.2) ∧ Below W.heap.size W w') hk1.out (s_may HX.out _) ⟨k0, k1, kb⟩).mono ?_
  clear k0 k1 kb
  rintro e w2 ⟨rfl, k0, k1, kb⟩
  go_wp2_with fail
  refine (keepS (fun w' : World => w'.cell? ⟨W.heap.size, 0, none⟩ = some (.int .i64 x.1) ∧ w'.cell? ⟨W.heap.size, 1, none⟩ = some (.int .i64 x.2) ∧ Below W.heap.size W w') hk1.out (s_pow HO.out (by decide) _) ⟨k0, k1, kb⟩).mono ?_
  clear k0 k1 kb
  rintro e w3 ⟨rfl, k0, k1, kb⟩
  have gb10 : Below w3.heap.size w3 (w3.alloc (.cells #[.int .i64 o.1, .int .i64 o.2] 23)) := (Below.refl _ _).alloc (Nat.le_refl _) _
  replace k0 := below_cell gb10 k0
  replace k1 := below_cell gb10 k1
  replace kb := grow_trans kb gb10
  obtain ⟨k2, k3, _, _⟩ := (EBox.new w3 o.1 o.2).facts
  clear gb10
  obtain ⟨C3, hC3⟩ : ∃ C, w3.heap.size = C := ⟨_, rfl⟩
  rw [hC3] at k2 k3
  have hk2 := Lib.hid (show ∀ a b : World, (fun w' : World => w'.cell? ⟨W.heap.size, 0, none⟩ = some (.int .i64 x.1) ∧ w'.cell? ⟨W.heap.size, 1, none⟩ = some (.int .i64 x.2) ∧ w'.cell? ⟨C3, 0, none⟩ = some (.int .i64 o.1) ∧ w'.cell? ⟨C3, 1, none⟩ = some (.int .i64 o.2) ∧ Below W.heap.size W w') a → Below a.heap.size a b → (fun w' : World => w'.cell? ⟨W.heap.size, 0, none⟩ = some (.int .i64 x.1) ∧ w'.cell? ⟨W.heap.size, 1, none⟩ = some (.int .i64 x.2) ∧ w'.cell? ⟨C3, 0, none⟩ = some (.int .i64 o.1) ∧ w'.cell? ⟨C3, 1, none⟩ = some (.int .i64 o.2) ∧ Below W.heap.size W w') b from fun a b ⟨k0, k1, k2, k3, kb⟩ h => ⟨below_cell h k0, below_cell h k1, below_cell h k2, below_cell h k3, grow_trans kb h⟩)
  go_wp2_with fail
  refine wp_region_held_drew (S := (fun w' : World => w'.cell? ⟨W.heap.size, 0, none⟩ = some (.int .i64 x.1) ∧ w'.cell? ⟨W.heap.size, 1, none⟩ = some (.int .i64 x.2) ∧ w'.cell? ⟨C3, 0, none⟩ = some (.int .i64 o.1) ∧ w'.cell? ⟨C3, 1, none⟩ = some (.int .i64 o.2) ∧ Below W.heap.size W w')) (by kernel_rfl) ?_ (fun hHeld => ?_)
  · exact ⟨by assumption, by assumption, by assumption, by assumption, Below.drew (by assumption)⟩
  refine takeW (i := 0) (v := ?_) rfl (by kernel_rfl) (by kernel_rfl) (by kernel_rfl) (fun _ _ _ h => h) (by rfl) ?_ (by assumption) ?_
  rotate_left
  focus (intro w hSw; (try dsimp only at hSw); go_simp; try (with_reducible rfl))
  simp only [Act.put, List.setIfInBounds_toArray, List.set_cons_zero, List.set_cons_succ]
  refine takeW (i := 1) (v := ?_) rfl (by kernel_rfl) (by kernel_rfl) (by kernel_rfl) (fun _ _ _ h => h) (by rfl) ?_ (by assumption) ?_
  rotate_left
  focus (intro w hSw; (try dsimp only at hSw); go_simp; try (with_reducible rfl))
  simp only [Act.put, List.setIfInBounds_toArray, List.set_cons_zero, List.set_cons_succ]
  refine takeW (i := 2) (v := ?_) rfl (by kernel_rfl) (by kernel_rfl) (by kernel_rfl) (fun _ _ _ h => h) (by rfl) ?_ (by assumption) ?_
  rotate_left
  focus (intro w hSw; (try dsimp only at hSw); go_simp; try (with_reducible rfl))
  simp only [Act.put, List.setIfInBounds_toArray, List.set_cons_zero, List.set_cons_succ]
  refine takeW (i := 3) (v := ?_) rfl (by kernel_rfl) (by kernel_rfl) (by kernel_rfl) (fun _ _ _ h => h) (by rfl) ?_ (by assumption) ?_
  rotate_left
  focus (intro w hSw; (try dsimp only at hSw); go_simp; try (with_reducible rfl))
  simp only [Act.put, List.setIfInBounds_toArray, List.set_cons_zero, List.set_cons_succ]
  refine takeW (i := 5) (v := ?_) rfl (by kernel_rfl) (by kernel_rfl) (by kernel_rfl) (fun _ _ _ h => h) (by rfl) ?_ (by assumption) ?_
  rotate_left
  focus (intro w hSw; (try dsimp only at hSw); go_simp; try (with_reducible rfl))
  simp only [Act.put, List.setIfInBounds_toArray, List.set_cons_zero, List.set_cons_succ]
  refine takeW (i := 6) (v := ?_) rfl (by kernel_rfl) (by kernel_rfl) (by kernel_rfl) (fun _ _ _ h => h) (by rfl) ?_ (by assumption) ?_
  rotate_left
  focus (intro w hSw; (try dsimp only at hSw); go_simp; try (with_reducible rfl))
  simp only [Act.put, List.setIfInBounds_toArray, List.set_cons_zero, List.set_cons_succ]
  refine takeW (i := 8) (v := ?_) rfl (by kernel_rfl) (by kernel_rfl) (by kernel_rfl) (fun _ _ _ h => h) (by rfl) ?_ (by assumption) ?_
  rotate_left
  focus (intro w hSw; (try dsimp only at hSw); go_simp; try (with_reducible rfl))
  simp only [Act.put, List.setIfInBounds_toArray, List.set_cons_zero, List.set_cons_succ]
  refine takeW (i := 9) (v := ?_) rfl (by kernel_rfl) (by kernel_rfl) (by kernel_rfl) (fun _ _ _ h => h) (by rfl) ?_ (by assumption) ?_
  rotate_left
  focus (intro w hSw; (try dsimp only at hSw); go_simp; try (with_reducible rfl))
  simp only [Act.put, List.setIfInBounds_toArray, List.set_cons_zero, List.set_cons_succ]
  refine readyOne (i := 4) (by kernel_rfl) rfl (fun K hK => ?_)
  go_simp
  refine (keepS (fun w' : World => w'.cell? ⟨W.heap.size, 0, none⟩ = some (.int .i64 x.1) ∧ w'.cell? ⟨W.heap.size, 1, none⟩ = some (.int .i64 x.2) ∧ w'.cell? ⟨C3, 0, none⟩ = some (.int .i64 o.1) ∧ w'.cell? ⟨C3, 1, none⟩ = some (.int .i64 o.2) ∧ Below W.heap.size W w') hk2.out (s_pow (HPF.out _) (by assumption) _) (by assumption)).mono ?_
  rintro e w' ⟨rfl, kS⟩
  go_wp2_with fail
  refine hK.out _ _ kS (fun hHeld => ?_)
  clear hK K
  refine readyOne (i := 7) (by kernel_rfl) rfl (fun K hK => ?_)
  go_simp
  refine (keepS (fun w' : World => w'.cell? ⟨W.heap.size, 0, none⟩ = some (.int .i64 x.1) ∧ w'.cell? ⟨W.heap.size, 1, none⟩ = some (.int .i64 x.2) ∧ w'.cell? ⟨C3, 0, none⟩ = some (.int .i64 o.1) ∧ w'.cell? ⟨C3, 1, none⟩ = some (.int .i64 o.2) ∧ Below W.heap.size W w') hk2.out (s_pow (HPF.out _) (by assumption) _) (by assumption)).mono ?_
  rintro e w' ⟨rfl, kS⟩
  go_wp2_with fail
  refine hK.out _ _ kS (fun hHeld => ?_)
  clear hK K
  refine readyOne (i := 10) (by kernel_rfl) rfl (fun K hK => ?_)
  go_simp
  refine (keepS (fun w' : World => w'.cell? ⟨W.heap.size, 0, none⟩ = some (.int .i64 x.1) ∧ w'.cell? ⟨W.heap.size, 1, none⟩ = some (.int .i64 x.2) ∧ w'.cell? ⟨C3, 0, none⟩ = some (.int .i64 o.1) ∧ w'.cell? ⟨C3, 1, none⟩ = some (.int .i64 o.2) ∧ Below W.heap.size W w') hk2.out (s_pow (HPF.out _) (by assumption) _) (by assumption)).mono ?_
  rintro e w' ⟨rfl, kS⟩
  go_wp2_with fail
  refine hK.out _ _ kS (fun hHeld => ?_)
  clear hK K
  refine readyOne (i := 11) (by kernel_rfl) rfl (fun K hK => ?_)
  go_simp
  refine (keepS (fun w' : World => w'.cell? ⟨W.heap.size, 0, none⟩ = some (.int .i64 x.1) ∧ w'.cell? ⟨W.heap.size, 1, none⟩ = some (.int .i64 x.2) ∧ w'.cell? ⟨C3, 0, none⟩ = some (.int .i64 o.1) ∧ w'.cell? ⟨C3, 1, none⟩ = some (.int .i64 o.2) ∧ Below W.heap.size W w') hk2.out (pmul_eq (HMF.out _ _) _) (by assumption)).mono ?_
  rintro e w' ⟨rfl, kS⟩
  go_wp2_with fail
  refine hK.out _ _ kS (fun hHeld => ?_)
  clear hK K
  refine takeW (i := 12) (v := ?_) rfl (by kernel_rfl) (by kernel_rfl) (by kernel_rfl) (fun _ _ _ h => h) (by rfl) ?_ (by assumption) ?_
  rotate_left
  focus (intro w hSw; (try dsimp only at hSw); go_simp; try (with_reducible rfl))
  simp only [Act.put, List.setIfInBounds_toArray, List.set_cons_zero, List.set_cons_succ]
  refine takeW (i := 13) (v := ?_) rfl (by kernel_rfl) (by kernel_rfl) (by kernel_rfl) (fun _ _ _ h => h) (by rfl) ?_ (by assumption) ?_
  rotate_left
  focus (intro w hSw; (try dsimp only at hSw); go_simp; try (with_reducible rfl))
  simp only [Act.put, List.setIfInBounds_toArray, List.set_cons_zero, List.set_cons_succ]
  refine takeW (i := 14) (v := ?_) rfl (by kernel_rfl) (by kernel_rfl) (by kernel_rfl) (fun _ _ _ h => h) (by rfl) ?_ (by assumption) ?_
  rotate_left
  focus (intro w hSw; (try dsimp only at hSw); go_simp; try (with_reducible rfl))
  simp only [Act.put, List.setIfInBounds_toArray, List.set_cons_zero, List.set_cons_succ]
  refine takeW (i := 15) (v := ?_) rfl (by kernel_rfl) (by kernel_rfl) (by kernel_rfl) (fun _ _ _ h => h) (by rfl) ?_ (by assumption) ?_
  rotate_left
  focus (intro w hSw; (try dsimp only at hSw); go_simp; try (with_reducible rfl))
  simp only [Act.put, List.setIfInBounds_toArray, List.set_cons_zero, List.set_cons_succ]
  refine takeU (i := 16) rfl (by kernel_rfl) (by kernel_rfl) (by kernel_rfl) (fun _ _ _ h => h) (by rfl) (by assumption) ?_
  simp only [Act.put, List.setIfInBounds_toArray, List.set_cons_zero, List.set_cons_succ]
  refine takeU (i := 17) rfl (by kernel_rfl) (by kernel_rfl) (by kernel_rfl) (fun _ _ _ h => h) (by rfl) (by assumption) ?_
  simp only [Act.put, List.setIfInBounds_toArray, List.set_cons_zero, List.set_cons_succ]
  refine takeU (i := 18) rfl (by kernel_rfl) (by kernel_rfl) (by kernel_rfl) (fun _ _ _ h => h) (by rfl) (by assumption) ?_
  simp only [Act.put, List.setIfInBounds_toArray, List.set_cons_zero, List.set_cons_succ]
  refine takeW (i := 19) (v := ?_) rfl (by kernel_rfl) (by kernel_rfl) (by kernel_rfl) (fun _ _ _ h => h) (by rfl) ?_ (by assumption) ?_
  rotate_left
  focus (intro w hSw; (try dsimp only at hSw); go_simp; try (with_reducible rfl))
  simp only [Act.put, List.setIfInBounds_toArray, List.set_cons_zero, List.set_cons_succ]
  refine takeW (i := 20) (v := ?_) rfl (by kernel_rfl) (by kernel_rfl) (by kernel_rfl) (fun _ _ _ h => h) (by rfl) ?_ (by assumption) ?_
  rotate_left
  focus (intro w hSw; (try dsimp only at hSw); go_simp; try (with_reducible rfl))
  simp only [Act.put, List.setIfInBounds_toArray, List.set_cons_zero, List.set_cons_succ]
  refine takeW (i := 21) (v := ?_) rfl (by kernel_rfl) (by kernel_rfl) (by kernel_rfl) (fun _ _ _ h => h) (by rfl) ?_ (by assumption) ?_
  rotate_left
  focus (intro w hSw; (try dsimp only at hSw); go_simp; try (with_reducible rfl))
  simp only [Act.put, List.setIfInBounds_toArray, List.set_cons_zero, List.set_cons_succ]
  refine wpAnyH_done (by kernel_rfl) ?_ _
  all_goals (go_wp2_with fail; go_ret; exact ⟨rfl, (show (fun w' : World => w'.cell? ⟨W.heap.size, 0, none⟩ = some (.int .i64 x.1) ∧ w'.cell? ⟨W.heap.size, 1, none⟩ = some (.int .i64 x.2) ∧ w'.cell? ⟨C3, 0, none⟩ = some (.int .i64 o.1) ∧ w'.cell? ⟨C3, 1, none⟩ = some (.int .i64 o.2) ∧ Below W.heap.size W w') _ by assumption).2.2.2.2⟩)
set_option maxHeartbeats 4000000 in
set_option maxRecDepth 100000 in
theorem gaussAddsUp_4 (x : Ga.E) (m n : Nat) (hx : Ga.ok x = true) (h0 : x ≠ (0, 0)) (h1 : m ≤ 1099511627776) (h2 : n ≤ 1099511627776) (W : World) :
    Calls Try.prog 11 #[elv x, .int .u64 m, .int .u64 n] W fun e W' => e = .returned (.bool true) ∧ Below W.heap.size W W' := by
  have t1 : decide ((1099511627776 : Int) < (m : Int)) = false := by simp; omega
  have t2 : decide ((1099511627776 : Int) < (n : Int)) = false := by simp; omega
  have e0 : eqE x.1 x.2 0 0 = false := eqE_ne (y := (0, 0)) h0
  obtain ⟨s, hs'⟩ : ∃ s, m + n = s := ⟨_, rfl⟩
  have hw : IntKind.u64.wrap ((m : Int) + (n : Int)) = (s : Int) := by rw [IntWalk.u64_in _ ⟨by omega, by omega⟩]; omega
  have hadd := Ga.pow_add hx m n (by omega)
  rw [hs'] at hadd
  obtain ⟨mf, hmf'⟩ : ∃ f : Ga.E → Ga.E → Ga.E, ∀ a b, Ga.mul a b = f a b := ⟨Ga.mul, fun _ _ => rfl⟩
  have HMF := Lib.hid hmf'
  obtain ⟨pf, hpf'⟩ : ∃ f : Nat → Ga.E, ∀ k, Ga.pow x k = f k := ⟨Ga.pow x, fun _ => rfl⟩
  have HPF := Lib.hid hpf'
  rw [hpf', hpf', hpf', hmf'] at hadd
  obtain ⟨o, ho'⟩ : ∃ w, pf 100140048 = w := ⟨_, rfl⟩
  have HO := Lib.hid ((hpf' _).trans ho')
  have ea : eqE (pf s).1 (pf s).2 (mf (pf m) (pf n)).1 (mf (pf m) (pf n)).2 = true := eqE_eq hadd
  have HX := Lib.hid hx
  have hs1 : s < 18446744073709551616 := by omega
  have hm1 : m < 18446744073709551616 := by omega
  have hn1 : n < 18446744073709551616 := by omega
  have e1 : eqE o.1 o.2 1 0 = true := eqE_eq (y := (1, 0)) (by rw [← ho', ← hpf']; exact Ga.pow_period hx h0)
  clear hx ho' hadd hmf' hpf' hs' h0 h1 h2
  go_enter Try.func11, Try.ntmps11
  go_wp2_with fail
  refine (gaShown_any _).mono ?_
  rintro e w1 ⟨rfl, h1⟩
  have x0 := (EBox.new W x.1 x.2).kept h1
  obtain ⟨k0, k1, _, _⟩ := x0.facts
  have kb : Below W.heap.size W w1 := ((Below.refl _ W).alloc (Nat.le_refl _) _).trans (h1.mono (by simp))
  clear h1 x0
  have hk1 := Lib.hid (show ∀ a b : World, (fun w' : World => w'.cell? ⟨W.heap.size, 0, none⟩ = some (.int .i64 x.1) ∧ w'.cell? ⟨W.heap.size, 1, none⟩ = some (.int .i64 x.2) ∧ Below W.heap.size W w') a → Below a.heap.size a b → (fun w' : World => w'.cell? ⟨W.heap.size, 0, none⟩ = some (.int .i64 x.1) ∧ w'.cell? ⟨W.heap.size, 1, none⟩ = some (.int .i64 x.2) ∧ Below W.heap.size W w') b from fun a b ⟨k0, k1, kb⟩ h => ⟨below_cell h k0, below_cell h k1, grow_trans kb h⟩)
  go_wp2_with fail
  refine (keepS (fun w' : World => w'.cell? ⟨W.heap.size, 0, none⟩ = some (.int .i64 x.1) ∧ w'.cell? ⟨W.heap.size, 1, none⟩ = some (.int .i64 x.2) ∧ Below W.heap.size W w') hk1.out (s_may HX.out _) ⟨k0, k1, kb⟩).mono ?_
  clear k0 k1 kb
  rintro e w2 ⟨rfl, k0, k1, kb⟩
  go_wp2_with fail
  refine (keepS (fun w' : World => w'.cell? ⟨W.heap.size, 0, none⟩ = some (.int .i64 x.1) ∧ w'.cell? ⟨W.heap.size, 1, none⟩ = some (.int .i64 x.2) ∧ Below W.heap.size W w') hk1.out (s_pow HO.out (by decide) _) ⟨k0, k1, kb⟩).mono ?_
  clear k0 k1 kb
  rintro e w3 ⟨rfl, k0, k1, kb⟩
  have gb10 : Below w3.heap.size w3 (w3.alloc (.cells #[.int .i64 o.1, .int .i64 o.2] 23)) := (Below.refl _ _).alloc (Nat.le_refl _) _
  replace k0 := below_cell gb10 k0
  replace k1 := below_cell gb10 k1
  replace kb := grow_trans kb gb10
  obtain ⟨k2, k3, _, _⟩ := (EBox.new w3 o.1 o.2).facts
  clear gb10
  obtain ⟨C3, hC3⟩ : ∃ C, w3.heap.size = C := ⟨_, rfl⟩
  rw [hC3] at k2 k3
  have hk2 := Lib.hid (show ∀ a b : World, (fun w' : World => w'.cell? ⟨W.heap.size, 0, none⟩ = some (.int .i64 x.1) ∧ w'.cell? ⟨W.heap.size, 1, none⟩ = some (.int .i64 x.2) ∧ w'.cell? ⟨C3, 0, none⟩ = some (.int .i64 o.1) ∧ w'.cell? ⟨C3, 1, none⟩ = some (.int .i64 o.2) ∧ Below W.heap.size W w') a → Below a.heap.size a b → (fun w' : World => w'.cell? ⟨W.heap.size, 0, none⟩ = some (.int .i64 x.1) ∧ w'.cell? ⟨W.heap.size, 1, none⟩ = some (.int .i64 x.2) ∧ w'.cell? ⟨C3, 0, none⟩ = some (.int .i64 o.1) ∧ w'.cell? ⟨C3, 1, none⟩ = some (.int .i64 o.2) ∧ Below W.heap.size W w') b from fun a b ⟨k0, k1, k2, k3, kb⟩ h => ⟨below_cell h k0, below_cell h k1, below_cell h k2, below_cell h k3, grow_trans kb h⟩)
  go_wp2_with fail
  first
  | (go_region_held3 (fun w' : World => w'.cell? ⟨W.heap.size, 0, none⟩ = some (.int .i64 x.1) ∧ w'.cell? ⟨W.heap.size, 1, none⟩ = some (.int .i64 x.2) ∧ w'.cell? ⟨C3, 0, none⟩ = some (.int .i64 o.1) ∧ w'.cell? ⟨C3, 1, none⟩ = some (.int .i64 o.2) ∧ Below W.heap.size W w')
      (first | assumption | exact ⟨by assumption, by assumption, by assumption, by assumption, by first | assumption | exact Below.drew (by assumption)⟩)
      (first
        | (go_at_call 24; refine (keepS (fun w' : World => w'.cell? ⟨W.heap.size, 0, none⟩ = some (.int .i64 x.1) ∧ w'.cell? ⟨W.heap.size, 1, none⟩ = some (.int .i64 x.2) ∧ w'.cell? ⟨C3, 0, none⟩ = some (.int .i64 o.1) ∧ w'.cell? ⟨C3, 1, none⟩ = some (.int .i64 o.2) ∧ Below W.heap.size W w') hk2.out (s_pow (HPF.out _) (by assumption) _) (by assumption)).mono ?_; rintro e w' ⟨rfl, kS⟩)
        | (go_at_call 20; refine (keepS (fun w' : World => w'.cell? ⟨W.heap.size, 0, none⟩ = some (.int .i64 x.1) ∧ w'.cell? ⟨W.heap.size, 1, none⟩ = some (.int .i64 x.2) ∧ w'.cell? ⟨C3, 0, none⟩ = some (.int .i64 o.1) ∧ w'.cell? ⟨C3, 1, none⟩ = some (.int .i64 o.2) ∧ Below W.heap.size W w') hk2.out (pmul_eq (HMF.out _ _) _) (by assumption)).mono ?_; rintro e w' ⟨rfl, kS⟩)))
  | fail
  all_goals (go_wp2_with fail; go_ret; exact ⟨rfl, (show (fun w' : World => w'.cell? ⟨W.heap.size, 0, none⟩ = some (.int .i64 x.1) ∧ w'.cell? ⟨W.heap.size, 1, none⟩ = some (.int .i64 x.2) ∧ w'.cell? ⟨C3, 0, none⟩ = some (.int .i64 o.1) ∧ w'.cell? ⟨C3, 1, none⟩ = some (.int .i64 o.2) ∧ Below W.heap.size W w') _ by assumption).2.2.2.2⟩)
theorem gaussAddsUp_core (x : Ga.E) (m n : Nat) (W : World) :
    Calls Try.prog 11 #[elv x, .int .u64 m, .int .u64 n] W fun e W' => e = .returned (.bool true) ∧ Below W.heap.size W W' := by
  cases hx : Ga.ok x with
  | false => exact gaussAddsUp_0 x m n hx W
  | true =>
    by_cases h1 : 1099511627776 < m
    · exact gaussAddsUp_1 x m n hx h1 W
    · by_cases h2 : 1099511627776 < n
      · exact gaussAddsUp_2 x m n hx (by omega) h2 W
      · by_cases h0 : x = (0, 0)
        · exact gaussAddsUp_3 x m n hx h0 (by omega) (by omega) W
        · exact gaussAddsUp_4 x m n hx h0 (by omega) (by omega) W

theorem gaussAddsUp_walk {H : Type} (enc : TypeId × Value → H) (W : World) (base : Nat) (v0 : Value) (v1 : Value) (v2 : Value) (d0 : DataW H) (d1 : DataW H) (d2 : DataW H) (p0 : List MemPlace) (p1 : List MemPlace) (p2 : List MemPlace)
    (h0 : DataW.Trod enc Try.prog W 0 (fun _ => true) true 23 v0 d0 p0) (o0 : Value.okWide Try.prog W .any base 23 v0)
    (h1 : DataW.Trod enc Try.prog W 0 (fun _ => true) true 29 v1 d1 p1) (o1 : Value.okWide Try.prog W .any base 29 v1)
    (h2 : DataW.Trod enc Try.prog W 0 (fun _ => true) true 29 v2 d2 p2) (o2 : Value.okWide Try.prog W .any base 29 v2)
    (_hsz : (DataW.weightsEach Try.prog [23, 29, 29] [d0, d1, d2]).all (· ≤ reachBytes) = true) :
    Calls Try.prog 11 #[v0, v1, v2] W fun e W' => e = .returned (.bool true) ∧ Below W.heap.size W W' := by
  obtain ⟨a0, b0, rfl⟩ := open_elem o0 h0
  obtain ⟨n1, u1, rfl, rfl, rfl⟩ := open_u64 Try.underlying29 o1 h1
  obtain ⟨n2, u2, rfl, rfl, rfl⟩ := open_u64 Try.underlying29 o2 h2
  exact gaussAddsUp_core (a0, b0) n1 n2 W
end Go.Proofs.Ytbpbpmfipgbcjaa
