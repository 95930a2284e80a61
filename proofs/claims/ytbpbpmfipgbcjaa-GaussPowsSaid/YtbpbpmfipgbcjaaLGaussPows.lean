/- GaussPows: the walk. -/
import Derived.Test.YtbpbpmfipgbcjaaGaussIface
import Derived.Test.YtbpbpmfipgbcjaaGaussField2
import Derived.Test.YtbpbpmfipgbcjaaOpenEl
import Derived.Deep.DeepCutAuto
namespace Go.Proofs.Ytbpbpmfipgbcjaa
open Go.RowKit Go.ChangeShapes Go.WideShapes Go.ChangeAt

attribute [local go_sem] build_el build_el0 build_el1 build_el2 eq_elE guard_el eqE_self

set_option maxHeartbeats 4000000 in
theorem gaussPows_core (x : Ga.E) (n : Nat) (hn : n < 18446744073709551616) (W : World) :
    Calls Try.prog 5 #[elv x, .int .u64 n] W fun e W' => e = .returned (.bool true) ∧ Below W.heap.size W W' := by
  obtain ⟨m, hm'⟩ : ∃ z, Ga.pow x n = z := ⟨_, rfl⟩
  have HM := Lib.hid hm'
  obtain ⟨s, hs'⟩ : ∃ z, Ga.ofN n = z := ⟨_, rfl⟩
  have HS := Lib.hid hs'
  clear hm' hs'
  go_enter Try.func5, Try.ntmps5
  go_wp2_with fail
  refine (gaShown_any _).mono ?_
  rintro e w1 ⟨rfl, h1⟩
  have x0 := (EBox.new W x.1 x.2).kept h1
  obtain ⟨k0, k1, _, _⟩ := x0.facts
  have kb : Below W.heap.size W w1 := ((Below.refl _ W).alloc (Nat.le_refl _) _).trans (h1.mono (by simp))
  clear h1 x0
  have hk1 : ∀ a b : World, (fun w' : World => w'.cell? ⟨W.heap.size, 0, none⟩ = some (.int .i64 x.1) ∧ w'.cell? ⟨W.heap.size, 1, none⟩ = some (.int .i64 x.2) ∧ Below W.heap.size W w') a → Below a.heap.size a b → (fun w' : World => w'.cell? ⟨W.heap.size, 0, none⟩ = some (.int .i64 x.1) ∧ w'.cell? ⟨W.heap.size, 1, none⟩ = some (.int .i64 x.2) ∧ Below W.heap.size W w') b := fun a b ⟨k0, k1, kb⟩ h => ⟨below_cell h k0, below_cell h k1, grow_trans kb h⟩
  go_wp2_with fail
  go_region_held3 (fun w' : World => w'.cell? ⟨W.heap.size, 0, none⟩ = some (.int .i64 x.1) ∧ w'.cell? ⟨W.heap.size, 1, none⟩ = some (.int .i64 x.2) ∧ Below W.heap.size W w')
    (first | assumption | exact ⟨by assumption, by assumption, by first | assumption | exact Below.drew (by assumption)⟩)
    (first
      | (go_at_call 24; refine (keepS (fun w' : World => w'.cell? ⟨W.heap.size, 0, none⟩ = some (.int .i64 x.1) ∧ w'.cell? ⟨W.heap.size, 1, none⟩ = some (.int .i64 x.2) ∧ Below W.heap.size W w') hk1 (s_pow HM.out hn _) (by assumption)).mono ?_; rintro e w' ⟨rfl, kS⟩)
      | (go_at_call 25; refine (keepS (fun w' : World => w'.cell? ⟨W.heap.size, 0, none⟩ = some (.int .i64 x.1) ∧ w'.cell? ⟨W.heap.size, 1, none⟩ = some (.int .i64 x.2) ∧ Below W.heap.size W w') hk1 (rpow_eq HM.out hn _) (by assumption)).mono ?_; rintro e w' ⟨rfl, kS⟩)
      | (go_at_call 26; refine (keepS (fun w' : World => w'.cell? ⟨W.heap.size, 0, none⟩ = some (.int .i64 x.1) ∧ w'.cell? ⟨W.heap.size, 1, none⟩ = some (.int .i64 x.2) ∧ Below W.heap.size W w') hk1 (s_of HS.out hn _) (by assumption)).mono ?_; rintro e w' ⟨rfl, kS⟩)
      | (go_at_call 27; refine (keepS (fun w' : World => w'.cell? ⟨W.heap.size, 0, none⟩ = some (.int .i64 x.1) ∧ w'.cell? ⟨W.heap.size, 1, none⟩ = some (.int .i64 x.2) ∧ Below W.heap.size W w') hk1 (r_of HS.out hn _) (by assumption)).mono ?_; rintro e w' ⟨rfl, kS⟩))
  all_goals (go_wp2_with fail; go_ret; exact ⟨rfl, (show (fun w' : World => w'.cell? ⟨W.heap.size, 0, none⟩ = some (.int .i64 x.1) ∧ w'.cell? ⟨W.heap.size, 1, none⟩ = some (.int .i64 x.2) ∧ Below W.heap.size W w') _ by assumption).2.2⟩)

theorem gaussPows_walk {H : Type} (enc : TypeId × Value → H) (W : World) (base : Nat) (v0 : Value) (v1 : Value) (d0 : DataW H) (d1 : DataW H) (p0 : List MemPlace) (p1 : List MemPlace)
    (h0 : DataW.Trod enc Try.prog W 0 (fun _ => true) true 23 v0 d0 p0) (o0 : Value.okWide Try.prog W .any base 23 v0)
    (h1 : DataW.Trod enc Try.prog W 0 (fun _ => true) true 29 v1 d1 p1) (o1 : Value.okWide Try.prog W .any base 29 v1)
    (_hsz : (DataW.weightsEach Try.prog [23, 29] [d0, d1]).all (· ≤ reachBytes) = true) :
    Calls Try.prog 5 #[v0, v1] W fun e W' => e = .returned (.bool true) ∧ Below W.heap.size W W' := by
  obtain ⟨a0, b0, rfl⟩ := open_elem o0 h0
  obtain ⟨n1, u1, rfl, rfl, rfl⟩ := open_u64 Try.underlying29 o1 h1
  exact gaussPows_core (a0, b0) n1 u1 W
end Go.Proofs.Ytbpbpmfipgbcjaa
