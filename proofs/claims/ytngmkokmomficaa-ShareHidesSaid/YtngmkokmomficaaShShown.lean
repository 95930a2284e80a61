/- The document's example of chapter 4; equality of shares; polynomials and shares that came in. -/
import Derived.Test.YtngmkokmomficaaShROpen
import Derived.Test.YtngmkokmomficaaOpenRows
import Derived.Deep.RegionHeld3
namespace Go.Proofs.Ytngmkokmomficaa
open Go.RowKit Go.ChangeShapes Go.WideShapes Go.ChangeAt
attribute [local go_sem] build_el build_el0 build_el1 build_el2 guard_el eqE_self
attribute [local go_sem ↓] eq_elE

theorem eq_shr (a b c : Int) (w : World) : (Op.equalIn 10000 27 (.agg #[.int .i64 a, .int .i64 b, .int .i64 c]) (.agg #[.int .i64 a, .int .i64 b, .int .i64 c])).run Try.prog w = .ok true w := by
  have hS : Try.prog.underlying 27 = some (.struct (Try.prog.fieldsOf 27)) := by kernel_rfl
  have hp : Try.prog.stoodInHeld 27 = false := by kernel_rfl
  have hS2 : Try.prog.underlying 24 = some (.struct (Try.prog.fieldsOf 24)) := by kernel_rfl
  have hp2 : Try.prog.stoodInHeld 24 = false := by kernel_rfl
  have u1 := Try.underlying3
  have n1 : (Op.equalIn 9999 24 (.agg #[.int .i64 b, .int .i64 c]) (.agg #[.int .i64 b, .int .i64 c])).run Try.prog w = .ok true w := by
    rw [show (9999 : Nat) = 9998 + 1 from rfl, run_equalIn_agg w 9998 24 _ _ hS2 hp2]
    simp only [Program.fieldsOf, Try.underlying24]
    go_simp
  rw [show (10000 : Nat) = 9999 + 1 from rfl, run_equalIn_agg w 9999 27 _ _ hS hp]
  simp only [Program.fieldsOf, Try.underlying27]
  have p1 : (part 24 #[.int .i64 a, .int .i64 b, .int .i64 c] 1).run Try.prog w = .ok (.agg #[.int .i64 b, .int .i64 c]) w := by kernel_rfl
  have p0 : (part 3 #[.int .i64 a, .int .i64 b, .int .i64 c] 0).run Try.prog w = .ok (.int .i64 a) w := by kernel_rfl
  have n0 : (Op.equalIn 9999 3 (.int .i64 a) (.int .i64 a)).run Try.prog w = .ok true w := by
    rw [show (9999 : Nat) = 9998 + 1 from rfl]
    go_simp
  simp [Op.eqFields, ↓p0, ↓p1, ↓n0, ↓n1, Sem.run_bind]
theorem guard_shr (op : BinOp) (o1 o2 : Operand) (xs ys : Array Value) (w : World) : (eqGuard op 27 o1 o2 (.agg xs) (.agg ys)).run Try.prog w = .ok () w := run_eqGuard_agg w op 27 o1 o2 xs ys (by kernel_rfl)

/-- A row that was written out. -/
theorem flat_new (w : World) (cs : Array Value) (t : TypeId) (n k cap : Nat) (h : cs.size = n * k) : FlatAt (w.alloc (.cells cs t)) (.slice (some ⟨w.heap.size, 0, none⟩) n cap) k cs.toList := by
  refine .inr ⟨w.heap.size, 0, n, cap, rfl, by simpa using h, fun i hi => ?_⟩
  rw [World.cell?_alloc_at _ _ _ _ rfl]
  simp

theorem sh_ex1 : Sr.ofE [(5, 0), (3, 0)] 1 = ((1, 8, 0), 0) := by decide
theorem sh_ex2 : Sr.ofE [(5, 0), (3, 0)] 2 = ((2, 11, 0), 0) := by decide
theorem sh_ex3 : Sr.openE [(1, 8, 0), (2, 11, 0)] = ((5, 0), 0) := by decide +kernel

set_option maxHeartbeats 2000000 in
set_option maxRecDepth 100000 in
theorem shShown_any (w : World) : Calls Try.prog 11 #[] w fun e w' => e = .returned (.bool true) ∧ Below w.heap.size w w' := by
  have g1 : Below w.heap.size w (w.alloc (.cells #[.int .i64 5, .int .i64 0, .int .i64 3, .int .i64 0] 24)) := (Below.refl _ _).alloc (Nat.le_refl _) _
  have hp : FlatAt (w.alloc (.cells #[.int .i64 5, .int .i64 0, .int .i64 3, .int .i64 0] 24)) (.slice (some ⟨w.heap.size, 0, none⟩) 2 2) 2 (elems [(5, 0), (3, 0)]) := flat_new w _ _ 2 2 2 rfl
  have HP := Lib.hid hp
  have G1 := Lib.hid g1
  clear hp g1
  have c1 := Lib.hid (fun (v : Value) (W : World) (h : FlatAt W v 2 (elems [(5, 0), (3, 0)])) => (show Calls Try.prog 12 #[v, .int .i64 1] W fun e w' => e = .returned (.tuple #[shv (1, 8, 0), .int .i64 0]) ∧ Below W.heap.size W w' from by have := pof_sh v _ 1 W h (by decide); rwa [sh_ex1] at this))
  have c2 := Lib.hid (fun (v : Value) (W : World) (h : FlatAt W v 2 (elems [(5, 0), (3, 0)])) => (show Calls Try.prog 12 #[v, .int .i64 2] W fun e w' => e = .returned (.tuple #[shv (2, 11, 0), .int .i64 0]) ∧ Below W.heap.size W w' from by have := pof_sh v _ 2 W h (by decide); rwa [sh_ex2] at this))
  have c3 := Lib.hid (fun (v : Value) (W : World) (h : FlatAt W v 3 (shrs [(1, 8, 0), (2, 11, 0)])) => (show Calls Try.prog 16 #[v] W fun e w' => e = .returned (.tuple #[elv (5, 0), .int .i64 0]) ∧ Below W.heap.size W w' from by have := popen_any v _ W h (by decide) (by intro s hs; simp at hs; rcases hs with rfl | rfl <;> decide); rwa [sh_ex3] at this))
  go_enter Try.func11, Try.ntmps11
  go_wp2_with fail
  refine (c1.out _ _ HP.out).mono ?_
  rintro e w1 ⟨rfl, h1⟩
  have b1 := KBox.new w1 27 (.int .i64 1) (.int .i64 8) (.int .i64 0)
  have g2 := (grow_trans G1.out h1).alloc (grow_trans G1.out h1).size (.cells #[.int .i64 1, .int .i64 8, .int .i64 0] 27)
  have HP2 := Lib.hid ((HP.out.below h1).below ((Below.refl _ _).alloc (Nat.le_refl _) (.cells #[.int .i64 1, .int .i64 8, .int .i64 0] 27)))
  clear h1 HP
  obtain ⟨B1, hB1⟩ : ∃ B, w1.heap.size = B := ⟨_, rfl⟩
  rw [hB1] at b1
  go_wp2_with fail
  clear hB1
  refine (c2.out _ _ HP2.out).mono ?_
  generalize w1.alloc (.cells #[.int .i64 1, .int .i64 8, .int .i64 0] 27) = w2 at *
  rintro e w3 ⟨rfl, h3⟩
  have b2 := (b1.kept h3).alloc (.cells #[.int .i64 2, .int .i64 11, .int .i64 0] 27)
  have b3 := KBox.new w3 27 (.int .i64 2) (.int .i64 11) (.int .i64 0)
  have g3 := (grow_trans g2 h3).alloc (grow_trans g2 h3).size (.cells #[.int .i64 2, .int .i64 11, .int .i64 0] 27)
  clear h3 b1 g2 HP2
  obtain ⟨B3, hB3⟩ : ∃ B, w3.heap.size = B := ⟨_, rfl⟩
  rw [hB3] at b3
  have hH4 : (w3.alloc (.cells #[.int .i64 2, .int .i64 11, .int .i64 0] 27)).heap.size = B3 + 1 := by rw [← hB3]; simp
  obtain ⟨k0, k1, k2⟩ := b2.cells
  obtain ⟨k3, k4, k5⟩ := b3.cells
  have hl : FlatAt ((w3.alloc (.cells #[.int .i64 2, .int .i64 11, .int .i64 0] 27)).alloc (.cells #[.int .i64 1, .int .i64 8, .int .i64 0, .int .i64 2, .int .i64 11, .int .i64 0] 27)) (.slice (some ⟨B3 + 1, 0, none⟩) 2 2) 3 (shrs [(1, 8, 0), (2, 11, 0)]) := by
    rw [← hH4]
    exact flat_new _ _ _ 2 3 2 rfl
  have HL := Lib.hid hl
  have g4 := g3.alloc g3.size (.cells #[.int .i64 1, .int .i64 8, .int .i64 0, .int .i64 2, .int .i64 11, .int .i64 0] 27)
  have b4 := b2.alloc (.cells #[.int .i64 1, .int .i64 8, .int .i64 0, .int .i64 2, .int .i64 11, .int .i64 0] 27)
  have b5 := b3.alloc (.cells #[.int .i64 1, .int .i64 8, .int .i64 0, .int .i64 2, .int .i64 11, .int .i64 0] 27)
  clear hl hH4 g3 b2 b3
  go_wp2_with fail
  clear hB3
  refine (c3.out _ _ HL.out).mono ?_
  rintro e w5 ⟨rfl, h5⟩
  have b6 := (b4.kept h5).alloc (.cells #[.int .i64 5, .int .i64 0] 24)
  have b7 := (b5.kept h5).alloc (.cells #[.int .i64 5, .int .i64 0] 24)
  have g6 := (grow_trans g4 h5).alloc (grow_trans g4 h5).size (.cells #[.int .i64 5, .int .i64 0] 24)
  clear h5 HL b4 b5 g4 k0 k1 k2 k3 k4 k5
  obtain ⟨k0, k1, k2⟩ := b6.cells
  obtain ⟨k3, k4, k5⟩ := b7.cells
  go_wp2_with fail
  go_ret
  exact ⟨rfl, g6⟩
end Go.Proofs.Ytngmkokmomficaa
