/- GaussInvs: the walk. -/
import Derived.Test.YtbpbpmfipgbcjaaGaussIface
import Derived.Test.YtbpbpmfipgbcjaaGaussField2
import Derived.Test.YtbpbpmfipgbcjaaOpenEl
import Derived.Deep.DeepCutAuto
namespace Go.Proofs.Ytbpbpmfipgbcjaa
open Go.RowKit Go.ChangeShapes Go.WideShapes Go.ChangeAt

attribute [local go_sem] build_el build_el0 build_el1 build_el2 eq_elE guard_el eqE_self

set_option maxHeartbeats 4000000 in
theorem gaussInvs_core (x : Ga.E) (W : World) :
    Calls Try.prog 6 #[elv x] W fun e W' => e = .returned (.bool true) ∧ Below W.heap.size W W' := by
  have hr' := Ga.inv_eq x
  obtain ⟨⟨z, c⟩, hz'⟩ : ∃ z, Ga.inv x = z := ⟨_, rfl⟩
  rw [hz'] at hr'
  have HZ := Lib.hid hz'
  have HR := Lib.hid hr'.symm
  clear hz' hr'
  go_enter Try.func6, Try.ntmps6
  go_wp2_with fail
  refine (gaShown_any _).mono ?_
  rintro e w1 ⟨rfl, h1⟩
  have x0 := (EBox.new W x.1 x.2).kept h1
  obtain ⟨k0, k1, _, _⟩ := x0.facts
  have kb : Below W.heap.size W w1 := ((Below.refl _ W).alloc (Nat.le_refl _) _).trans (h1.mono (by simp))
  clear h1 x0
  have hk1 : ∀ a b : World, (fun w' : World => w'.cell? ⟨W.heap.size, 0, none⟩ = some (.int .i64 x.1) ∧ w'.cell? ⟨W.heap.size, 1, none⟩ = some (.int .i64 x.2) ∧ Below W.heap.size W w') a → Below a.heap.size a b → (fun w' : World => w'.cell? ⟨W.heap.size, 0, none⟩ = some (.int .i64 x.1) ∧ w'.cell? ⟨W.heap.size, 1, none⟩ = some (.int .i64 x.2) ∧ Below W.heap.size W w') b := fun a b ⟨k0, k1, kb⟩ h => ⟨below_cell h k0, below_cell h k1, grow_trans kb h⟩
  go_wp2_with fail
  refine (keepS (fun w' : World => w'.cell? ⟨W.heap.size, 0, none⟩ = some (.int .i64 x.1) ∧ w'.cell? ⟨W.heap.size, 1, none⟩ = some (.int .i64 x.2) ∧ Below W.heap.size W w') hk1 (s_inv HZ.out _) ⟨k0, k1, kb⟩).mono ?_
  clear k0 k1 kb
  rintro e w2 ⟨rfl, k0, k1, kb⟩
  have gb10 : Below w2.heap.size w2 (w2.alloc (.cells #[.int .i64 z.1, .int .i64 z.2] 23)) := (Below.refl _ _).alloc (Nat.le_refl _) _
  replace k0 := below_cell gb10 k0
  replace k1 := below_cell gb10 k1
  replace kb := grow_trans kb gb10
  obtain ⟨k2, k3, _, _⟩ := (EBox.new w2 z.1 z.2).facts
  clear gb10
  have hk2 : ∀ a b : World, (fun w' : World => w'.cell? ⟨W.heap.size, 0, none⟩ = some (.int .i64 x.1) ∧ w'.cell? ⟨W.heap.size, 1, none⟩ = some (.int .i64 x.2) ∧ w'.cell? ⟨w2.heap.size, 0, none⟩ = some (.int .i64 z.1) ∧ w'.cell? ⟨w2.heap.size, 1, none⟩ = some (.int .i64 z.2) ∧ Below W.heap.size W w') a → Below a.heap.size a b → (fun w' : World => w'.cell? ⟨W.heap.size, 0, none⟩ = some (.int .i64 x.1) ∧ w'.cell? ⟨W.heap.size, 1, none⟩ = some (.int .i64 x.2) ∧ w'.cell? ⟨w2.heap.size, 0, none⟩ = some (.int .i64 z.1) ∧ w'.cell? ⟨w2.heap.size, 1, none⟩ = some (.int .i64 z.2) ∧ Below W.heap.size W w') b := fun a b ⟨k0, k1, k2, k3, kb⟩ h => ⟨below_cell h k0, below_cell h k1, below_cell h k2, below_cell h k3, grow_trans kb h⟩
  go_wp2_with fail
  refine (keepS (fun w' : World => w'.cell? ⟨W.heap.size, 0, none⟩ = some (.int .i64 x.1) ∧ w'.cell? ⟨W.heap.size, 1, none⟩ = some (.int .i64 x.2) ∧ w'.cell? ⟨w2.heap.size, 0, none⟩ = some (.int .i64 z.1) ∧ w'.cell? ⟨w2.heap.size, 1, none⟩ = some (.int .i64 z.2) ∧ Below W.heap.size W w') hk2 (rinv_eq HR.out _) ⟨k0, k1, k2, k3, kb⟩).mono ?_
  clear k0 k1 k2 k3 kb
  rintro e w3 ⟨rfl, k0, k1, k2, k3, kb⟩
  have gb20 : Below w3.heap.size w3 (w3.alloc (.cells #[.int .i64 z.1, .int .i64 z.2] 23)) := (Below.refl _ _).alloc (Nat.le_refl _) _
  replace k0 := below_cell gb20 k0
  replace k1 := below_cell gb20 k1
  replace k2 := below_cell gb20 k2
  replace k3 := below_cell gb20 k3
  replace kb := grow_trans kb gb20
  obtain ⟨k4, k5, _, _⟩ := (EBox.new w3 z.1 z.2).facts
  clear gb20
  have hk3 : ∀ a b : World, (fun w' : World => w'.cell? ⟨W.heap.size, 0, none⟩ = some (.int .i64 x.1) ∧ w'.cell? ⟨W.heap.size, 1, none⟩ = some (.int .i64 x.2) ∧ w'.cell? ⟨w2.heap.size, 0, none⟩ = some (.int .i64 z.1) ∧ w'.cell? ⟨w2.heap.size, 1, none⟩ = some (.int .i64 z.2) ∧ w'.cell? ⟨w3.heap.size, 0, none⟩ = some (.int .i64 z.1) ∧ w'.cell? ⟨w3.heap.size, 1, none⟩ = some (.int .i64 z.2) ∧ Below W.heap.size W w') a → Below a.heap.size a b → (fun w' : World => w'.cell? ⟨W.heap.size, 0, none⟩ = some (.int .i64 x.1) ∧ w'.cell? ⟨W.heap.size, 1, none⟩ = some (.int .i64 x.2) ∧ w'.cell? ⟨w2.heap.size, 0, none⟩ = some (.int .i64 z.1) ∧ w'.cell? ⟨w2.heap.size, 1, none⟩ = some (.int .i64 z.2) ∧ w'.cell? ⟨w3.heap.size, 0, none⟩ = some (.int .i64 z.1) ∧ w'.cell? ⟨w3.heap.size, 1, none⟩ = some (.int .i64 z.2) ∧ Below W.heap.size W w') b := fun a b ⟨k0, k1, k2, k3, k4, k5, kb⟩ h => ⟨below_cell h k0, below_cell h k1, below_cell h k2, below_cell h k3, below_cell h k4, below_cell h k5, grow_trans kb h⟩
  go_wp2_with fail
  go_ret
  exact ⟨rfl, kb⟩

theorem gaussInvs_walk {H : Type} (enc : TypeId × Value → H) (W : World) (base : Nat) (v0 : Value) (d0 : DataW H) (p0 : List MemPlace)
    (h0 : DataW.Trod enc Try.prog W 0 (fun _ => true) true 23 v0 d0 p0) (o0 : Value.okWide Try.prog W .any base 23 v0)
    (_hsz : (DataW.weightsEach Try.prog [23] [d0]).all (· ≤ reachBytes) = true) :
    Calls Try.prog 6 #[v0] W fun e W' => e = .returned (.bool true) ∧ Below W.heap.size W W' := by
  obtain ⟨a0, b0, rfl⟩ := open_elem o0 h0
  exact gaussInvs_core (a0, b0) W
end Go.Proofs.Ytbpbpmfipgbcjaa
