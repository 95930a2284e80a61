/- ShaBlocks: the walk. -/
import Derived.Test.YtfjkindhdnaknaaDoorShaShown
import Derived.Test.YtfjkindhdnaknaaDoorShaRBlock
import Derived.Test.YtfjkindhdnaknaaDoorShaBlockN
namespace Go.Proofs.YtfjkindhdnaknaaDoor
open Go.RowKit Go.ChangeShapes Go.WideShapes Go.ChangeAt

set_option maxHeartbeats 1000000 in
set_option maxRecDepth 100000 in
theorem shaBlocks_core (a b c d e f g k : Nat) (bl : List UInt8) (x0 x1 x2 x3 x4 x5 x6 x7 : Nat) (E : Int) (W : World) (hg : GW W)
    (hp : ∀ w, GW w → Calls Tryd.prog 18 #[.agg #[uv a, uv b, uv c, uv d, uv e, uv f, uv g, uv k], tx bl] w fun ee w' => ee = .returned (.tuple #[.agg #[uv x0, uv x1, uv x2, uv x3, uv x4, uv x5, uv x6, uv x7], .int .i64 E]) ∧ Below w.heap.size w w')
    (hr : ∀ w, Calls Tryd.prog 19 #[.agg #[uv a, uv b, uv c, uv d, uv e, uv f, uv g, uv k], tx bl] w fun ee w' => ee = .returned (.tuple #[.agg #[uv x0, uv x1, uv x2, uv x3, uv x4, uv x5, uv x6, uv x7], .int .i64 E]) ∧ Below w.heap.size w w') :
    Calls Tryd.prog 5 #[.agg #[uv a, uv b, uv c, uv d, uv e, uv f, uv g, uv k], tx bl] W fun e W' => e = .returned (.bool true) ∧ Below W.heap.size W W' := by
  have HP := Lib.hid hp
  have HR := Lib.hid hr
  have HGW := Lib.hid hg
  have hbox : ARow (W.alloc (.cells #[uv a, uv b, uv c, uv d, uv e, uv f, uv g, uv k] 26)) W.heap.size 26 [a, b, c, d, e, f, g, k] := ARow.new W 26 [a, b, c, d, e, f, g, k]
  have hb0 : Below W.heap.size W (W.alloc (.cells #[uv a, uv b, uv c, uv d, uv e, uv f, uv g, uv k] 26)) := (Below.refl _ _).alloc (Nat.le_refl _) _
  have H1 := Lib.hid (shaShown (W.alloc (.cells #[uv a, uv b, uv c, uv d, uv e, uv f, uv g, uv k] 26)) (hg.below hb0))
  have HX := Lib.hid hbox
  have HB0 := Lib.hid hb0
  clear hp hr hg hbox hb0
  go_enter Tryd.func5, Tryd.ntmps5
  go_wp2_with fail
  refine H1.out.mono ?_
  rintro ee w1 ⟨rfl, g1⟩
  have hx1 := HX.out.kept g1
  have HB1 := Lib.hid (grow_trans HB0.out g1)
  have c0 : w1.cell? ⟨W.heap.size, 0, none⟩ = some (uv a) := hx1.cell 0 (by simp)
  have c1 : w1.cell? ⟨W.heap.size, 1, none⟩ = some (uv b) := hx1.cell 1 (by simp)
  have c2 : w1.cell? ⟨W.heap.size, 2, none⟩ = some (uv c) := hx1.cell 2 (by simp)
  have c3 : w1.cell? ⟨W.heap.size, 3, none⟩ = some (uv d) := hx1.cell 3 (by simp)
  have c4 : w1.cell? ⟨W.heap.size, 4, none⟩ = some (uv e) := hx1.cell 4 (by simp)
  have c5 : w1.cell? ⟨W.heap.size, 5, none⟩ = some (uv f) := hx1.cell 5 (by simp)
  have c6 : w1.cell? ⟨W.heap.size, 6, none⟩ = some (uv g) := hx1.cell 6 (by simp)
  have c7 : w1.cell? ⟨W.heap.size, 7, none⟩ = some (uv k) := hx1.cell 7 (by simp)
  have HX1 := Lib.hid hx1
  clear hx1 g1
  go_wp2_with fail
  refine (HP.out _ (HGW.out.below HB1.out)).mono ?_
  rintro ee w2 ⟨rfl, g2⟩
  have hx2 := (HX1.out.kept g2).alloc (.cells #[uv x0, uv x1, uv x2, uv x3, uv x4, uv x5, uv x6, uv x7] 26)
  have HB2 := Lib.hid ((grow_trans HB1.out g2).alloc (grow_trans HB1.out g2).size (.cells #[uv x0, uv x1, uv x2, uv x3, uv x4, uv x5, uv x6, uv x7] 26))
  have hy2 : ARow (w2.alloc (.cells #[uv x0, uv x1, uv x2, uv x3, uv x4, uv x5, uv x6, uv x7] 26)) w2.heap.size 26 [x0, x1, x2, x3, x4, x5, x6, x7] := ARow.new w2 26 [x0, x1, x2, x3, x4, x5, x6, x7]
  have p0 : (w2.alloc (.cells #[uv x0, uv x1, uv x2, uv x3, uv x4, uv x5, uv x6, uv x7] 26)).cell? ⟨W.heap.size, 0, none⟩ = some (uv a) := hx2.cell 0 (by simp)
  have p1 : (w2.alloc (.cells #[uv x0, uv x1, uv x2, uv x3, uv x4, uv x5, uv x6, uv x7] 26)).cell? ⟨W.heap.size, 1, none⟩ = some (uv b) := hx2.cell 1 (by simp)
  have p2 : (w2.alloc (.cells #[uv x0, uv x1, uv x2, uv x3, uv x4, uv x5, uv x6, uv x7] 26)).cell? ⟨W.heap.size, 2, none⟩ = some (uv c) := hx2.cell 2 (by simp)
  have p3 : (w2.alloc (.cells #[uv x0, uv x1, uv x2, uv x3, uv x4, uv x5, uv x6, uv x7] 26)).cell? ⟨W.heap.size, 3, none⟩ = some (uv d) := hx2.cell 3 (by simp)
  have p4 : (w2.alloc (.cells #[uv x0, uv x1, uv x2, uv x3, uv x4, uv x5, uv x6, uv x7] 26)).cell? ⟨W.heap.size, 4, none⟩ = some (uv e) := hx2.cell 4 (by simp)
  have p5 : (w2.alloc (.cells #[uv x0, uv x1, uv x2, uv x3, uv x4, uv x5, uv x6, uv x7] 26)).cell? ⟨W.heap.size, 5, none⟩ = some (uv f) := hx2.cell 5 (by simp)
  have p6 : (w2.alloc (.cells #[uv x0, uv x1, uv x2, uv x3, uv x4, uv x5, uv x6, uv x7] 26)).cell? ⟨W.heap.size, 6, none⟩ = some (uv g) := hx2.cell 6 (by simp)
  have p7 : (w2.alloc (.cells #[uv x0, uv x1, uv x2, uv x3, uv x4, uv x5, uv x6, uv x7] 26)).cell? ⟨W.heap.size, 7, none⟩ = some (uv k) := hx2.cell 7 (by simp)
  have HY2 := Lib.hid hy2
  clear hx2 hy2 g2 c0 c1 c2 c3 c4 c5 c6 c7
  go_wp2_with fail
  refine (HR.out _).mono ?_
  rintro ee w3 ⟨rfl, g3⟩
  have hy3 := (HY2.out.kept g3).alloc (.cells #[uv x0, uv x1, uv x2, uv x3, uv x4, uv x5, uv x6, uv x7] 26)
  have hz3 : ARow (w3.alloc (.cells #[uv x0, uv x1, uv x2, uv x3, uv x4, uv x5, uv x6, uv x7] 26)) w3.heap.size 26 [x0, x1, x2, x3, x4, x5, x6, x7] := ARow.new w3 26 [x0, x1, x2, x3, x4, x5, x6, x7]
  have HB3 := Lib.hid ((grow_trans HB2.out g3).alloc (grow_trans HB2.out g3).size (.cells #[uv x0, uv x1, uv x2, uv x3, uv x4, uv x5, uv x6, uv x7] 26))
  have q0 : (w3.alloc (.cells #[uv x0, uv x1, uv x2, uv x3, uv x4, uv x5, uv x6, uv x7] 26)).cell? ⟨w2.heap.size, 0, none⟩ = some (uv x0) := hy3.cell 0 (by simp)
  have q1 : (w3.alloc (.cells #[uv x0, uv x1, uv x2, uv x3, uv x4, uv x5, uv x6, uv x7] 26)).cell? ⟨w2.heap.size, 1, none⟩ = some (uv x1) := hy3.cell 1 (by simp)
  have q2 : (w3.alloc (.cells #[uv x0, uv x1, uv x2, uv x3, uv x4, uv x5, uv x6, uv x7] 26)).cell? ⟨w2.heap.size, 2, none⟩ = some (uv x2) := hy3.cell 2 (by simp)
  have q3 : (w3.alloc (.cells #[uv x0, uv x1, uv x2, uv x3, uv x4, uv x5, uv x6, uv x7] 26)).cell? ⟨w2.heap.size, 3, none⟩ = some (uv x3) := hy3.cell 3 (by simp)
  have q4 : (w3.alloc (.cells #[uv x0, uv x1, uv x2, uv x3, uv x4, uv x5, uv x6, uv x7] 26)).cell? ⟨w2.heap.size, 4, none⟩ = some (uv x4) := hy3.cell 4 (by simp)
  have q5 : (w3.alloc (.cells #[uv x0, uv x1, uv x2, uv x3, uv x4, uv x5, uv x6, uv x7] 26)).cell? ⟨w2.heap.size, 5, none⟩ = some (uv x5) := hy3.cell 5 (by simp)
  have q6 : (w3.alloc (.cells #[uv x0, uv x1, uv x2, uv x3, uv x4, uv x5, uv x6, uv x7] 26)).cell? ⟨w2.heap.size, 6, none⟩ = some (uv x6) := hy3.cell 6 (by simp)
  have q7 : (w3.alloc (.cells #[uv x0, uv x1, uv x2, uv x3, uv x4, uv x5, uv x6, uv x7] 26)).cell? ⟨w2.heap.size, 7, none⟩ = some (uv x7) := hy3.cell 7 (by simp)
  have r0 : (w3.alloc (.cells #[uv x0, uv x1, uv x2, uv x3, uv x4, uv x5, uv x6, uv x7] 26)).cell? ⟨w3.heap.size, 0, none⟩ = some (uv x0) := hz3.cell 0 (by simp)
  have r1 : (w3.alloc (.cells #[uv x0, uv x1, uv x2, uv x3, uv x4, uv x5, uv x6, uv x7] 26)).cell? ⟨w3.heap.size, 1, none⟩ = some (uv x1) := hz3.cell 1 (by simp)
  have r2 : (w3.alloc (.cells #[uv x0, uv x1, uv x2, uv x3, uv x4, uv x5, uv x6, uv x7] 26)).cell? ⟨w3.heap.size, 2, none⟩ = some (uv x2) := hz3.cell 2 (by simp)
  have r3 : (w3.alloc (.cells #[uv x0, uv x1, uv x2, uv x3, uv x4, uv x5, uv x6, uv x7] 26)).cell? ⟨w3.heap.size, 3, none⟩ = some (uv x3) := hz3.cell 3 (by simp)
  have r4 : (w3.alloc (.cells #[uv x0, uv x1, uv x2, uv x3, uv x4, uv x5, uv x6, uv x7] 26)).cell? ⟨w3.heap.size, 4, none⟩ = some (uv x4) := hz3.cell 4 (by simp)
  have r5 : (w3.alloc (.cells #[uv x0, uv x1, uv x2, uv x3, uv x4, uv x5, uv x6, uv x7] 26)).cell? ⟨w3.heap.size, 5, none⟩ = some (uv x5) := hz3.cell 5 (by simp)
  have r6 : (w3.alloc (.cells #[uv x0, uv x1, uv x2, uv x3, uv x4, uv x5, uv x6, uv x7] 26)).cell? ⟨w3.heap.size, 6, none⟩ = some (uv x6) := hz3.cell 6 (by simp)
  have r7 : (w3.alloc (.cells #[uv x0, uv x1, uv x2, uv x3, uv x4, uv x5, uv x6, uv x7] 26)).cell? ⟨w3.heap.size, 7, none⟩ = some (uv x7) := hz3.cell 7 (by simp)
  have e8 : ∀ w, (Op.equalIn 10000 26 (.agg #[uv x0, uv x1, uv x2, uv x3, uv x4, uv x5, uv x6, uv x7]) (.agg #[uv x0, uv x1, uv x2, uv x3, uv x4, uv x5, uv x6, uv x7])).run Tryd.prog w = .ok true w := fun w => eq_self8 [x0, x1, x2, x3, x4, x5, x6, x7] rfl w
  have eg : ∀ (op : BinOp) (o1 o2 : Operand) (xs ys : Array Value) (w : World), (eqGuard op 26 o1 o2 (.agg xs) (.agg ys)).run Tryd.prog w = .ok () w := fun op o1 o2 xs ys w => run_eqGuard_agg w op 26 o1 o2 xs ys (by kernel_rfl)
  clear hy3 hz3 g3 p0 p1 p2 p3 p4 p5 p6 p7
  go_wp2
  go_ret
  exact ⟨rfl, HB3.out⟩

theorem shaBlocks_walk {H : Type} (enc : TypeId × Value → H) (W : World) (base : Nat) (v0 : Value) (v1 : Value) (d0 : DataW H) (d1 : DataW H) (p0 : List MemPlace) (p1 : List MemPlace)
    (h0 : DataW.Trod enc Tryd.prog W 0 (fun _ => true) true 26 v0 d0 p0) (o0 : Value.okWide Tryd.prog W .any base 26 v0)
    (h1 : DataW.Trod enc Tryd.prog W 0 (fun _ => true) true 9 v1 d1 p1) (o1 : Value.okWide Tryd.prog W .any base 9 v1)
    (_hsz : (DataW.weightsEach Tryd.prog [26, 9] [d0, d1]).all (· ≤ reachBytes) = true) (hg : GW W) :
    Calls Tryd.prog 5 #[v0, v1] W fun e W' => e = .returned (.bool true) ∧ Below W.heap.size W W' := by
  obtain ⟨a, b, c, d, e, f, g, k, rfl, hok⟩ := open_state o0 h0
  obtain ⟨bl, rfl, rfl, rfl⟩ := open_tx Tryd.underlying9 o1 h1
  by_cases hb : bl.length = 64
  · have hlen : (Sh.block [a, b, c, d, e, f, g, k] bl).length = 8 := by rw [Sh.block, List.length_zipWith]; rfl
    obtain ⟨x0, x1, x2, x3, x4, x5, x6, x7, hx⟩ := Sh.eight _ hlen
    have hp := fun w hw => pblock8 a b c d e f g k hok bl hb w hw
    have hr := fun w => rblock8 a b c d e f g k hok bl hb w
    rw [hx] at hp hr
    exact shaBlocks_core a b c d e f g k bl x0 x1 x2 x3 x4 x5 x6 x7 0 W hg hp hr
  · exact shaBlocks_core a b c d e f g k bl 0 0 0 0 0 0 0 0 1 W hg (fun w _ => pblockN a b c d e f g k bl hb w) (fun w => rblockN a b c d e f g k bl hb w)
end Go.Proofs.YtfjkindhdnaknaaDoor
