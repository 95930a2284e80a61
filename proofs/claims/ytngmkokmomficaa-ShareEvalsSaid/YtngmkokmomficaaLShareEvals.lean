/- ShareEvals: the walk. -/
import Derived.Test.YtngmkokmomficaaShOpenIn
import Derived.Deep.DeepCutAuto
namespace Go.Proofs.Ytngmkokmomficaa
open Go.RowKit Go.ChangeShapes Go.WideShapes Go.ChangeAt
attribute [local go_sem] build_el build_el0 build_el1 build_el2 guard_el guard_shr eqE_self
attribute [local go_sem ↓] eq_elE eq_shr

set_option maxHeartbeats 4000000 in
set_option maxRecDepth 100000 in
theorem shareEvals_core (v : Value) (p : List Ga.E) (x : Ga.E) (i : Int) (w : World) (hv : FlatAt w v 2 (elems p)) (hlen : p.length ≤ 140737488351232) :
    Calls Try.prog 3 #[v, elv x, .int .i64 i] w fun e w' => e = .returned (.bool true) ∧ Below w.heap.size w w' := by
  have c1 := Lib.hid (fun (W : World) (hb : Below w.heap.size w W) => pof_sh v p i W (hv.below hb) hlen)
  have c2 := Lib.hid (fun (W : World) (hb : Below w.heap.size w W) => rof_sh v p i W (hv.below hb) hlen)
  have c3 := Lib.hid (fun (W : World) (hb : Below w.heap.size w W) => peval_any v p x W (hv.below hb) hlen)
  have c4 := Lib.hid (fun (W : World) (hb : Below w.heap.size w W) => reval_any v p x W (hv.below hb) hlen)
  obtain ⟨⟨s, c⟩, hs⟩ : ∃ r, Sr.ofE p i = r := ⟨_, rfl⟩
  obtain ⟨z, hz⟩ : ∃ z, Sr.evalE p x = z := ⟨_, rfl⟩
  rw [hs] at c1 c2
  rw [hz] at c3 c4
  obtain ⟨av, cv, rfl⟩ := hv.len (n := p.length) (elems_len p) (by omega)
  clear hv hs hz
  have hb0 : Below w.heap.size w (w.alloc (.cells #[.int .i64 x.1, .int .i64 x.2] 24)) := (Below.refl _ _).alloc (Nat.le_refl _) _
  have hx0 := EBox.new w x.1 x.2
  go_enter Try.func3, Try.ntmps3
  go_wp2_with fail
  refine (shShown_any _).mono ?_
  rintro e w1 ⟨rfl, h1⟩
  have hb1 := hb0.trans (h1.mono hb0.size)
  have hx1 := hx0.kept h1
  clear hb0 hx0 h1
  go_wp2_with fail
  refine (c1.out _ hb1).mono ?_
  rintro e w2 ⟨rfl, h2⟩
  have hb2' := hb1.trans (h2.mono hb1.size)
  have hb2 := hb2'.alloc hb2'.size (.cells #[.int .i64 s.1, .int .i64 s.2.1, .int .i64 s.2.2] 27)
  have hx2 := (hx1.kept h2).alloc (.cells #[.int .i64 s.1, .int .i64 s.2.1, .int .i64 s.2.2] 27)
  have k2 := KBox.new w2 27 (.int .i64 s.1) (.int .i64 s.2.1) (.int .i64 s.2.2)
  obtain ⟨B2, hB2⟩ : ∃ B, w2.heap.size = B := ⟨_, rfl⟩
  rw [hB2] at k2
  clear hb1 hx1 h2 hb2'
  go_wp2_with fail
  clear hB2
  refine (c2.out _ hb2).mono ?_
  generalize w2.alloc (.cells #[.int .i64 s.1, .int .i64 s.2.1, .int .i64 s.2.2] 27) = w3 at *
  rintro e w4 ⟨rfl, h4⟩
  have hb4' := hb2.trans (h4.mono hb2.size)
  have hb4 := hb4'.alloc hb4'.size (.cells #[.int .i64 s.1, .int .i64 s.2.1, .int .i64 s.2.2] 27)
  have hx4 := (hx2.kept h4).alloc (.cells #[.int .i64 s.1, .int .i64 s.2.1, .int .i64 s.2.2] 27)
  have k4 := (k2.kept h4).alloc (.cells #[.int .i64 s.1, .int .i64 s.2.1, .int .i64 s.2.2] 27)
  have k5 := KBox.new w4 27 (.int .i64 s.1) (.int .i64 s.2.1) (.int .i64 s.2.2)
  obtain ⟨B4, hB4⟩ : ∃ B, w4.heap.size = B := ⟨_, rfl⟩
  rw [hB4] at k5
  clear hb2 hx2 h4 hb4' k2
  go_wp2_with fail
  clear hB4
  generalize w4.alloc (.cells #[.int .i64 s.1, .int .i64 s.2.1, .int .i64 s.2.2] 27) = w5 at *
  obtain ⟨x0, x1, _, _⟩ := hx4.facts
  obtain ⟨a0, a1, a2⟩ := k4.cells
  obtain ⟨b0, b1, b2⟩ := k5.cells
  have hS : (fun w' : World => w'.cell? ⟨w.heap.size, 0, none⟩ = some (.int .i64 x.1) ∧ w'.cell? ⟨w.heap.size, 1, none⟩ = some (.int .i64 x.2) ∧ w'.cell? ⟨B2, 0, none⟩ = some (.int .i64 s.1) ∧ w'.cell? ⟨B2, 1, none⟩ = some (.int .i64 s.2.1) ∧ w'.cell? ⟨B2, 2, none⟩ = some (.int .i64 s.2.2) ∧ w'.cell? ⟨B4, 0, none⟩ = some (.int .i64 s.1) ∧ w'.cell? ⟨B4, 1, none⟩ = some (.int .i64 s.2.1) ∧ w'.cell? ⟨B4, 2, none⟩ = some (.int .i64 s.2.2) ∧ Below w.heap.size w w') w5 := ⟨x0, x1, a0, a1, a2, b0, b1, b2, hb4⟩
  have hk := Lib.hid (show ∀ a b : World, (fun w' : World => w'.cell? ⟨w.heap.size, 0, none⟩ = some (.int .i64 x.1) ∧ w'.cell? ⟨w.heap.size, 1, none⟩ = some (.int .i64 x.2) ∧ w'.cell? ⟨B2, 0, none⟩ = some (.int .i64 s.1) ∧ w'.cell? ⟨B2, 1, none⟩ = some (.int .i64 s.2.1) ∧ w'.cell? ⟨B2, 2, none⟩ = some (.int .i64 s.2.2) ∧ w'.cell? ⟨B4, 0, none⟩ = some (.int .i64 s.1) ∧ w'.cell? ⟨B4, 1, none⟩ = some (.int .i64 s.2.1) ∧ w'.cell? ⟨B4, 2, none⟩ = some (.int .i64 s.2.2) ∧ Below w.heap.size w w') a → Below a.heap.size a b → (fun w' : World => w'.cell? ⟨w.heap.size, 0, none⟩ = some (.int .i64 x.1) ∧ w'.cell? ⟨w.heap.size, 1, none⟩ = some (.int .i64 x.2) ∧ w'.cell? ⟨B2, 0, none⟩ = some (.int .i64 s.1) ∧ w'.cell? ⟨B2, 1, none⟩ = some (.int .i64 s.2.1) ∧ w'.cell? ⟨B2, 2, none⟩ = some (.int .i64 s.2.2) ∧ w'.cell? ⟨B4, 0, none⟩ = some (.int .i64 s.1) ∧ w'.cell? ⟨B4, 1, none⟩ = some (.int .i64 s.2.1) ∧ w'.cell? ⟨B4, 2, none⟩ = some (.int .i64 s.2.2) ∧ Below w.heap.size w w') b from fun a b ⟨k0, k1, k2, k3, k4, k5, k6, k7, kb⟩ h => ⟨below_cell h k0, below_cell h k1, below_cell h k2, below_cell h k3, below_cell h k4, below_cell h k5, below_cell h k6, below_cell h k7, kb.trans (h.mono kb.size)⟩)
  have hBl := Lib.hid (fun (W : World) (h : (fun w' : World => w'.cell? ⟨w.heap.size, 0, none⟩ = some (.int .i64 x.1) ∧ w'.cell? ⟨w.heap.size, 1, none⟩ = some (.int .i64 x.2) ∧ w'.cell? ⟨B2, 0, none⟩ = some (.int .i64 s.1) ∧ w'.cell? ⟨B2, 1, none⟩ = some (.int .i64 s.2.1) ∧ w'.cell? ⟨B2, 2, none⟩ = some (.int .i64 s.2.2) ∧ w'.cell? ⟨B4, 0, none⟩ = some (.int .i64 s.1) ∧ w'.cell? ⟨B4, 1, none⟩ = some (.int .i64 s.2.1) ∧ w'.cell? ⟨B4, 2, none⟩ = some (.int .i64 s.2.2) ∧ Below w.heap.size w w') W) => h.2.2.2.2.2.2.2.2)
  clear hx4 k4 k5 c1 c2
  go_region_held3 (fun w' : World => w'.cell? ⟨w.heap.size, 0, none⟩ = some (.int .i64 x.1) ∧ w'.cell? ⟨w.heap.size, 1, none⟩ = some (.int .i64 x.2) ∧ w'.cell? ⟨B2, 0, none⟩ = some (.int .i64 s.1) ∧ w'.cell? ⟨B2, 1, none⟩ = some (.int .i64 s.2.1) ∧ w'.cell? ⟨B2, 2, none⟩ = some (.int .i64 s.2.2) ∧ w'.cell? ⟨B4, 0, none⟩ = some (.int .i64 s.1) ∧ w'.cell? ⟨B4, 1, none⟩ = some (.int .i64 s.2.1) ∧ w'.cell? ⟨B4, 2, none⟩ = some (.int .i64 s.2.2) ∧ Below w.heap.size w w')
    (first | assumption | exact ⟨by assumption, by assumption, by assumption, by assumption, by assumption, by assumption, by assumption, by assumption, by first | assumption | exact Below.drew (by assumption)⟩)
    (first
      | (go_at_call 14; refine (keepS (fun w' : World => w'.cell? ⟨w.heap.size, 0, none⟩ = some (.int .i64 x.1) ∧ w'.cell? ⟨w.heap.size, 1, none⟩ = some (.int .i64 x.2) ∧ w'.cell? ⟨B2, 0, none⟩ = some (.int .i64 s.1) ∧ w'.cell? ⟨B2, 1, none⟩ = some (.int .i64 s.2.1) ∧ w'.cell? ⟨B2, 2, none⟩ = some (.int .i64 s.2.2) ∧ w'.cell? ⟨B4, 0, none⟩ = some (.int .i64 s.1) ∧ w'.cell? ⟨B4, 1, none⟩ = some (.int .i64 s.2.1) ∧ w'.cell? ⟨B4, 2, none⟩ = some (.int .i64 s.2.2) ∧ Below w.heap.size w w') hk.out (c3.out _ (hBl.out _ (by assumption))) (by assumption)).mono ?_; rintro e w' ⟨rfl, kS⟩)
      | (go_at_call 15; refine (keepS (fun w' : World => w'.cell? ⟨w.heap.size, 0, none⟩ = some (.int .i64 x.1) ∧ w'.cell? ⟨w.heap.size, 1, none⟩ = some (.int .i64 x.2) ∧ w'.cell? ⟨B2, 0, none⟩ = some (.int .i64 s.1) ∧ w'.cell? ⟨B2, 1, none⟩ = some (.int .i64 s.2.1) ∧ w'.cell? ⟨B2, 2, none⟩ = some (.int .i64 s.2.2) ∧ w'.cell? ⟨B4, 0, none⟩ = some (.int .i64 s.1) ∧ w'.cell? ⟨B4, 1, none⟩ = some (.int .i64 s.2.1) ∧ w'.cell? ⟨B4, 2, none⟩ = some (.int .i64 s.2.2) ∧ Below w.heap.size w w') hk.out (c4.out _ (hBl.out _ (by assumption))) (by assumption)).mono ?_; rintro e w' ⟨rfl, kS⟩))
  all_goals (go_wp2_with fail; go_ret; exact ⟨rfl, hBl.out _ (by assumption)⟩)

theorem shareEvals_walk {H : Type} (enc : TypeId × Value → H) (W : World) (base : Nat) (v0 : Value) (v1 : Value) (v2 : Value) (d0 : DataW H) (d1 : DataW H) (d2 : DataW H) (p0 : List MemPlace) (p1 : List MemPlace) (p2 : List MemPlace)
    (h0 : DataW.Trod enc Try.prog W 0 (fun _ => true) true 22 v0 d0 p0) (_o0 : Value.okWide Try.prog W .any base 22 v0)
    (h1 : DataW.Trod enc Try.prog W 0 (fun _ => true) true 24 v1 d1 p1) (o1 : Value.okWide Try.prog W .any base 24 v1)
    (h2 : DataW.Trod enc Try.prog W 0 (fun _ => true) true 3 v2 d2 p2) (o2 : Value.okWide Try.prog W .any base 3 v2)
    (hsz : (DataW.weightsEach Try.prog [22, 24, 3] [d0, d1, d2]).all (· ≤ reachBytes) = true) :
    Calls Try.prog 3 #[v0, v1, v2] W fun e W' => e = .returned (.bool true) ∧ Below W.heap.size W W' := by
  simp only [DataW.weightsEach, List.all_append, Bool.and_eq_true] at hsz
  obtain ⟨a0, len, cap, rfl⟩ := okWide_slice Try.underlying22 _o0
  obtain ⟨n0, e0⟩ := h0
  obtain ⟨p, hp, hl⟩ := trod_elems (y := (d0, p0)) e0 hsz.1
  obtain ⟨a, b, rfl⟩ := open_elem o1 h1
  obtain ⟨i, _, _, rfl, _⟩ := open_i64 Try.underlying3 o2 h2
  exact shareEvals_core _ p (a, b) i W hp (by omega)
end Go.Proofs.Ytngmkokmomficaa
