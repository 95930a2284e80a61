/- Package gauss as it landed: Add, Sub, Mul. -/
import Derived.Test.YtngmkokmomficaaGaussCo
import Derived.Test.YtngmkokmomficaaElBox
namespace Go.Proofs.Ytngmkokmomficaa
open Go.RowKit

attribute [local go_sem] build_el build_el0 build_el1
theorem padd_any (x y : Ga.E) (w : World) :
    Calls Try.prog 29 #[elv x, elv y] w fun e w' => e = .returned (elv (Ga.add x y)) ∧ Below w.heap.size w w' := by
  have hc := fun W => combine_add x y W
  obtain ⟨a, b⟩ := x
  obtain ⟨c, d⟩ := y
  generalize Ga.add (a, b) (c, d) = z at *
  obtain ⟨p, q⟩ := z
  go_enter Try.func29, Try.ntmps29
  go_wp2_with fail
  refine (hc _).mono ?_
  rintro e w1 ⟨rfl, hb⟩
  have hx := (EBox.new _ 0 0).kept hb
  simp only [World.size_alloc] at hx
  obtain ⟨c0, c1, f0, f1⟩ := hx.facts
  go_wp2
  refine bodyPost_ret (v := el p q) ?_ rfl ⟨rfl, ?_⟩
  · obtain ⟨d0, d1, _, _⟩ := (hx.set p q).facts
    simp [results, Try.f29, go_sem, d0, d1]
  · have hb0 : Below w.heap.size w w1 := (((((Below.refl _ w).alloc (Nat.le_refl _) _).alloc (by simp) _).alloc (by simp; omega) _).trans (hb.mono (by simp; omega)))
    exact (hb0.setCell (p := ⟨w.heap.size + 1 + 1, 0, none⟩) (by simp; omega) _).setCell (p := ⟨w.heap.size + 1 + 1, 1, none⟩) (by simp; omega) _
theorem padd_eq {x y z : Ga.E} (h : Ga.add x y = z) (w : World) :
    Calls Try.prog 29 #[elv x, elv y] w fun e w' => e = .returned (elv z) ∧ Below w.heap.size w w' := by subst h; exact padd_any x y w
theorem psub_any (x y : Ga.E) (w : World) :
    Calls Try.prog 39 #[elv x, elv y] w fun e w' => e = .returned (elv (Ga.sub x y)) ∧ Below w.heap.size w w' := by
  have hc := fun W => combine_sub x y W
  obtain ⟨a, b⟩ := x
  obtain ⟨c, d⟩ := y
  generalize Ga.sub (a, b) (c, d) = z at *
  obtain ⟨p, q⟩ := z
  go_enter Try.func39, Try.ntmps39
  go_wp2_with fail
  refine (hc _).mono ?_
  rintro e w1 ⟨rfl, hb⟩
  have hx := (EBox.new _ 0 0).kept hb
  simp only [World.size_alloc] at hx
  obtain ⟨c0, c1, f0, f1⟩ := hx.facts
  go_wp2
  refine bodyPost_ret (v := el p q) ?_ rfl ⟨rfl, ?_⟩
  · obtain ⟨d0, d1, _, _⟩ := (hx.set p q).facts
    simp [results, Try.f39, go_sem, d0, d1]
  · have hb0 : Below w.heap.size w w1 := (((((Below.refl _ w).alloc (Nat.le_refl _) _).alloc (by simp) _).alloc (by simp; omega) _).trans (hb.mono (by simp; omega)))
    exact (hb0.setCell (p := ⟨w.heap.size + 1 + 1, 0, none⟩) (by simp; omega) _).setCell (p := ⟨w.heap.size + 1 + 1, 1, none⟩) (by simp; omega) _
theorem psub_eq {x y z : Ga.E} (h : Ga.sub x y = z) (w : World) :
    Calls Try.prog 39 #[elv x, elv y] w fun e w' => e = .returned (elv z) ∧ Below w.heap.size w w' := by subst h; exact psub_any x y w
theorem pmul_any (x y : Ga.E) (w : World) :
    Calls Try.prog 30 #[elv x, elv y] w fun e w' => e = .returned (elv (Ga.mul x y)) ∧ Below w.heap.size w w' := by
  have hc := fun W => combine_mul x y W
  obtain ⟨a, b⟩ := x
  obtain ⟨c, d⟩ := y
  generalize Ga.mul (a, b) (c, d) = z at *
  obtain ⟨p, q⟩ := z
  go_enter Try.func30, Try.ntmps30
  go_wp2_with fail
  refine (hc _).mono ?_
  rintro e w1 ⟨rfl, hb⟩
  have hx := (EBox.new _ 0 0).kept hb
  simp only [World.size_alloc] at hx
  obtain ⟨c0, c1, f0, f1⟩ := hx.facts
  go_wp2
  refine bodyPost_ret (v := el p q) ?_ rfl ⟨rfl, ?_⟩
  · obtain ⟨d0, d1, _, _⟩ := (hx.set p q).facts
    simp [results, Try.f30, go_sem, d0, d1]
  · have hb0 : Below w.heap.size w w1 := (((((Below.refl _ w).alloc (Nat.le_refl _) _).alloc (by simp) _).alloc (by simp; omega) _).trans (hb.mono (by simp; omega)))
    exact (hb0.setCell (p := ⟨w.heap.size + 1 + 1, 0, none⟩) (by simp; omega) _).setCell (p := ⟨w.heap.size + 1 + 1, 1, none⟩) (by simp; omega) _
theorem pmul_eq {x y z : Ga.E} (h : Ga.mul x y = z) (w : World) :
    Calls Try.prog 30 #[elv x, elv y] w fun e w' => e = .returned (elv z) ∧ Below w.heap.size w w' := by subst h; exact pmul_any x y w
end Go.Proofs.Ytngmkokmomficaa
