/- Package paper as it landed, and the document's: Append. -/
import Derived.Test.YtkkiedmcpibnaaaDoorPapOps
import Derived.Defers
namespace Pp
def appendR (p : P) (r : List UInt8) : P × Nat :=
  if ¬ r.length ≤ 65536 then (p, 4)
  else if p.2.2.2 = true then (p, 6)
  else if 1048576 < p.1.length + p.2.1.length + (frm r).length then (p, 5)
  else if p.2.2.1 < 0 then ((p.1, p.2.1 ++ frm r, p.2.2.1, false), 0)
  else if p.2.2.1 < ((frm r).length : Int) then ((p.1, p.2.1 ++ (frm r).take p.2.2.1.toNat, 0, true), 6)
  else ((p.1, p.2.1 ++ frm r, p.2.2.1 - ((frm r).length : Int), false), 0)
end Pp
namespace Go.Proofs.YtkkiedmcpibnaaaDoor
open Go.RowKit
set_option maxRecDepth 100000
attribute [local go_sem] ByteArray.mk_append_mk
theorem rframe_eq {r : List UInt8} {R : List UInt8 × Nat} (h : Pp.frameR r = R) (hr : r.length ≤ 140737488351232) (w : World) :
    Calls Tryd.prog 11 #[tx r] w fun e w' => e = .returned (.tuple #[tx R.1, .int .i64 R.2]) ∧ Below w.heap.size w w' := by subst h; exact rframe r hr w

set_option maxHeartbeats 1000000 in
theorem append1_deferred {B0 B1 : Nat} {a b : List UInt8} {f : Int} {o : Bool} (u : FrameMode) (w : World) (h0 : Blk w B0 34 [tx a, tx b, .int .i64 f, .bool o]) (h1 : Blk w B1 34 [tx [], tx [], .int .i64 0, .bool false]) :
    CallsD Tryd.prog 32 #[.pointer (some ⟨B0, 0, none⟩), .pointer (some ⟨B1, 0, none⟩)] u w fun e u' w' => u' = u ∧ e = .returned (.tuple #[]) ∧ Blk w' B1 34 [tx a, tx b, .int .i64 f, .bool o] ∧ ∀ n, n ≤ B1 → Below n w w' := by
  have c0 := h0.cell 0 rfl
  have c1 := h0.cell 1 rfl
  have c2 := h0.cell 2 rfl
  have c3 := h0.cell 3 rfl
  have d0 := h1.cell 0 rfl
  have d1 := h1.cell 1 rfl
  have d2 := h1.cell 2 rfl
  have d3 := h1.cell 3 rfl
  have k0 := h1.free 0
  have k1 := h1.free 1
  have k2 := h1.free 2
  have k3 := h1.free 3
  go_enter_d Tryd.func32, Tryd.ntmps32
  go_wp2
  go_end0
  exact ⟨rfl, (((h1.set 0 (tx a) rfl).set 1 (tx b) rfl).set 2 (.int .i64 f) rfl).set 3 (.bool o) rfl, fun n hn => ((((Below.refl n w).setCell (p := ⟨B1, 0, none⟩) hn _).setCell (p := ⟨B1, 1, none⟩) hn _).setCell (p := ⟨B1, 2, none⟩) hn _).setCell (p := ⟨B1, 3, none⟩) hn _⟩

set_option maxHeartbeats 1000000 in
theorem rappend_big (a b x r : List UInt8) (f : Int) (o : Bool)  (_hl : a.length + b.length ≤ 4398046511104) (_hxl : x.length ≤ 70000) (hr : r.length ≤ 140737488351232) (hR : Pp.frameR r = ([], 4)) (w : World) :
    Calls Tryd.prog 16 #[papV (a, b, f, o), tx r] w fun e w' => e = .returned (.tuple #[papV (a, b, f, o), .int .i64 4]) ∧ Below w.heap.size w w' := by
  have HF := Lib.hid (fun W  => rframe_eq hR hr W)
  clear hR
  have A0 := Lib.hid ((Blk.new w 34 [tx a, tx b, .int .i64 f, .bool o]).alloc (.cells #[tx [], tx [], .int .i64 0, .bool false] 34))
  have A1 := Lib.hid (by have h := Blk.new (w.alloc (.cells #[tx a, tx b, .int .i64 f, .bool o] 34)) 34 [tx [], tx [], .int .i64 0, .bool false]; rwa [World.size_alloc] at h : Blk ((w.alloc (.cells #[tx a, tx b, .int .i64 f, .bool o] 34)).alloc (.cells #[tx [], tx [], .int .i64 0, .bool false] 34)) (w.heap.size + 1) 34 [tx [], tx [], .int .i64 0, .bool false])
  have G0 := Lib.hid (show Below w.heap.size w ((w.alloc (.cells #[tx a, tx b, .int .i64 f, .bool o] 34)).alloc (.cells #[tx [], tx [], .int .i64 0, .bool false] 34)) from ((Below.refl _ _).alloc (Nat.le_refl _) _).alloc (by simp) _)
  go_enter Tryd.func16, Tryd.ntmps16
  go_wp2_with fail
  refine (HF.out _).mono ?_
  rintro e w1 ⟨rfl, g1⟩
  have B0 := Lib.hid (A0.out.kept g1)
  have B1 := Lib.hid (A1.out.kept g1)
  have G1 := Lib.hid (G0.out.trans (g1.mono (by simp; omega)))
  clear g1
  have c0 := B0.out.cell 0 rfl
  have cf0 := B0.out.free 0
  have c1 := B0.out.cell 1 rfl
  have cf1 := B0.out.free 1
  have c2 := B0.out.cell 2 rfl
  have cf2 := B0.out.free 2
  have c3 := B0.out.cell 3 rfl
  have cf3 := B0.out.free 3
  have d0 := B1.out.cell 0 rfl
  have df0 := B1.out.free 0
  have d1 := B1.out.cell 1 rfl
  have df1 := B1.out.free 1
  have d2 := B1.out.cell 2 rfl
  have df2 := B1.out.free 2
  have d3 := B1.out.cell 3 rfl
  have df3 := B1.out.free 3
  go_wp2
  have q := ((((B1.out.set 0 (tx a) rfl).set 1 (tx b) rfl).set 2 (.int .i64 f) rfl).set 3 (.bool o) rfl)
  have q0 := q.cell 0 rfl
  have q1 := q.cell 1 rfl
  have q2 := q.cell 2 rfl
  have q3 := q.cell 3 rfl
  refine bodyPost_ret (v := .tuple #[papV (a, b, f, o), .int .i64 4]) ?_ rfl ⟨rfl, ?_⟩
  · simp [results, Tryd.results16, go_sem, q0, q1, q2, q3]
  · exact ((((G1.out.setCell (p := ⟨_, 0, none⟩) (by simp) _).setCell (p := ⟨_, 1, none⟩) (by simp) _).setCell (p := ⟨_, 2, none⟩) (by simp) _).setCell (p := ⟨_, 3, none⟩) (by simp) _)
set_option maxHeartbeats 1000000 in
theorem rappend_off (a b x r : List UInt8) (f : Int)  (_hl : a.length + b.length ≤ 4398046511104) (_hxl : x.length ≤ 70000) (hr : r.length ≤ 140737488351232) (hR : Pp.frameR r = (x, 0)) (w : World) :
    Calls Tryd.prog 16 #[papV (a, b, f, true), tx r] w fun e w' => e = .returned (.tuple #[papV (a, b, f, true), .int .i64 6]) ∧ Below w.heap.size w w' := by
  have HF := Lib.hid (fun W  => rframe_eq hR hr W)
  clear hR
  have A0 := Lib.hid ((Blk.new w 34 [tx a, tx b, .int .i64 f, .bool true]).alloc (.cells #[tx [], tx [], .int .i64 0, .bool false] 34))
  have A1 := Lib.hid (by have h := Blk.new (w.alloc (.cells #[tx a, tx b, .int .i64 f, .bool true] 34)) 34 [tx [], tx [], .int .i64 0, .bool false]; rwa [World.size_alloc] at h : Blk ((w.alloc (.cells #[tx a, tx b, .int .i64 f, .bool true] 34)).alloc (.cells #[tx [], tx [], .int .i64 0, .bool false] 34)) (w.heap.size + 1) 34 [tx [], tx [], .int .i64 0, .bool false])
  have G0 := Lib.hid (show Below w.heap.size w ((w.alloc (.cells #[tx a, tx b, .int .i64 f, .bool true] 34)).alloc (.cells #[tx [], tx [], .int .i64 0, .bool false] 34)) from ((Below.refl _ _).alloc (Nat.le_refl _) _).alloc (by simp) _)
  go_enter Tryd.func16, Tryd.ntmps16
  go_wp2_with fail
  refine (HF.out _).mono ?_
  rintro e w1 ⟨rfl, g1⟩
  have B0 := Lib.hid (A0.out.kept g1)
  have B1 := Lib.hid (A1.out.kept g1)
  have G1 := Lib.hid (G0.out.trans (g1.mono (by simp; omega)))
  clear g1
  have c0 := B0.out.cell 0 rfl
  have cf0 := B0.out.free 0
  have c1 := B0.out.cell 1 rfl
  have cf1 := B0.out.free 1
  have c2 := B0.out.cell 2 rfl
  have cf2 := B0.out.free 2
  have c3 := B0.out.cell 3 rfl
  have cf3 := B0.out.free 3
  have d0 := B1.out.cell 0 rfl
  have df0 := B1.out.free 0
  have d1 := B1.out.cell 1 rfl
  have df1 := B1.out.free 1
  have d2 := B1.out.cell 2 rfl
  have df2 := B1.out.free 2
  have d3 := B1.out.cell 3 rfl
  have df3 := B1.out.free 3
  go_wp2
  have q := ((((B1.out.set 0 (tx a) rfl).set 1 (tx b) rfl).set 2 (.int .i64 f) rfl).set 3 (.bool true) rfl)
  have q0 := q.cell 0 rfl
  have q1 := q.cell 1 rfl
  have q2 := q.cell 2 rfl
  have q3 := q.cell 3 rfl
  refine bodyPost_ret (v := .tuple #[papV (a, b, f, true), .int .i64 6]) ?_ rfl ⟨rfl, ?_⟩
  · simp [results, Tryd.results16, go_sem, q0, q1, q2, q3]
  · exact ((((G1.out.setCell (p := ⟨_, 0, none⟩) (by simp) _).setCell (p := ⟨_, 1, none⟩) (by simp) _).setCell (p := ⟨_, 2, none⟩) (by simp) _).setCell (p := ⟨_, 3, none⟩) (by simp) _)
set_option maxHeartbeats 1000000 in
theorem rappend_full (a b x r : List UInt8) (f : Int) (hx : 1048576 < a.length + b.length + x.length) (hl : a.length + b.length ≤ 4398046511104) (hxl : x.length ≤ 70000) (hr : r.length ≤ 140737488351232) (hR : Pp.frameR r = (x, 0)) (w : World) :
    Calls Tryd.prog 16 #[papV (a, b, f, false), tx r] w fun e w' => e = .returned (.tuple #[papV (a, b, f, false), .int .i64 5]) ∧ Below w.heap.size w w' := by
  have t1 : decide ((1048576 : Int) < (a.length : Int) + (b.length : Int) + (x.length : Int)) = true := decide_eq_true (by omega)
  have HF := Lib.hid (fun W  => rframe_eq hR hr W)
  clear hR
  have A0 := Lib.hid ((Blk.new w 34 [tx a, tx b, .int .i64 f, .bool false]).alloc (.cells #[tx [], tx [], .int .i64 0, .bool false] 34))
  have A1 := Lib.hid (by have h := Blk.new (w.alloc (.cells #[tx a, tx b, .int .i64 f, .bool false] 34)) 34 [tx [], tx [], .int .i64 0, .bool false]; rwa [World.size_alloc] at h : Blk ((w.alloc (.cells #[tx a, tx b, .int .i64 f, .bool false] 34)).alloc (.cells #[tx [], tx [], .int .i64 0, .bool false] 34)) (w.heap.size + 1) 34 [tx [], tx [], .int .i64 0, .bool false])
  have G0 := Lib.hid (show Below w.heap.size w ((w.alloc (.cells #[tx a, tx b, .int .i64 f, .bool false] 34)).alloc (.cells #[tx [], tx [], .int .i64 0, .bool false] 34)) from ((Below.refl _ _).alloc (Nat.le_refl _) _).alloc (by simp) _)
  go_enter Tryd.func16, Tryd.ntmps16
  go_wp2_with fail
  refine (HF.out _).mono ?_
  rintro e w1 ⟨rfl, g1⟩
  have B0 := Lib.hid (A0.out.kept g1)
  have B1 := Lib.hid (A1.out.kept g1)
  have G1 := Lib.hid (G0.out.trans (g1.mono (by simp; omega)))
  clear g1
  have c0 := B0.out.cell 0 rfl
  have cf0 := B0.out.free 0
  have c1 := B0.out.cell 1 rfl
  have cf1 := B0.out.free 1
  have c2 := B0.out.cell 2 rfl
  have cf2 := B0.out.free 2
  have c3 := B0.out.cell 3 rfl
  have cf3 := B0.out.free 3
  have d0 := B1.out.cell 0 rfl
  have df0 := B1.out.free 0
  have d1 := B1.out.cell 1 rfl
  have df1 := B1.out.free 1
  have d2 := B1.out.cell 2 rfl
  have df2 := B1.out.free 2
  have d3 := B1.out.cell 3 rfl
  have df3 := B1.out.free 3
  go_wp2
  have q := ((((B1.out.set 0 (tx a) rfl).set 1 (tx b) rfl).set 2 (.int .i64 f) rfl).set 3 (.bool false) rfl)
  have q0 := q.cell 0 rfl
  have q1 := q.cell 1 rfl
  have q2 := q.cell 2 rfl
  have q3 := q.cell 3 rfl
  refine bodyPost_ret (v := .tuple #[papV (a, b, f, false), .int .i64 5]) ?_ rfl ⟨rfl, ?_⟩
  · simp [results, Tryd.results16, go_sem, q0, q1, q2, q3]
  · exact ((((G1.out.setCell (p := ⟨_, 0, none⟩) (by simp) _).setCell (p := ⟨_, 1, none⟩) (by simp) _).setCell (p := ⟨_, 2, none⟩) (by simp) _).setCell (p := ⟨_, 3, none⟩) (by simp) _)
set_option maxHeartbeats 1000000 in
theorem rappend_any (a b x r : List UInt8) (f : Int) (hx : a.length + b.length + x.length ≤ 1048576) (hf : f < 0) (hl : a.length + b.length ≤ 4398046511104) (hxl : x.length ≤ 70000) (hr : r.length ≤ 140737488351232) (hR : Pp.frameR r = (x, 0)) (w : World) :
    Calls Tryd.prog 16 #[papV (a, b, f, false), tx r] w fun e w' => e = .returned (.tuple #[papV (a, (b ++ x), f, false), .int .i64 0]) ∧ Below w.heap.size w w' := by
  have t1 : decide ((1048576 : Int) < (a.length : Int) + (b.length : Int) + (x.length : Int)) = false := decide_eq_false (by omega)
  have t2 : decide (f < 0) = true := decide_eq_true hf
  have t3 : decide ((0 : Int) ≤ f) = false := decide_eq_false (by omega)
  have e1 := fun W => cat_run b x (by omega) W
  have HF := Lib.hid (fun W  => rframe_eq hR hr W)
  clear hR
  have A0 := Lib.hid ((Blk.new w 34 [tx a, tx b, .int .i64 f, .bool false]).alloc (.cells #[tx [], tx [], .int .i64 0, .bool false] 34))
  have A1 := Lib.hid (by have h := Blk.new (w.alloc (.cells #[tx a, tx b, .int .i64 f, .bool false] 34)) 34 [tx [], tx [], .int .i64 0, .bool false]; rwa [World.size_alloc] at h : Blk ((w.alloc (.cells #[tx a, tx b, .int .i64 f, .bool false] 34)).alloc (.cells #[tx [], tx [], .int .i64 0, .bool false] 34)) (w.heap.size + 1) 34 [tx [], tx [], .int .i64 0, .bool false])
  have G0 := Lib.hid (show Below w.heap.size w ((w.alloc (.cells #[tx a, tx b, .int .i64 f, .bool false] 34)).alloc (.cells #[tx [], tx [], .int .i64 0, .bool false] 34)) from ((Below.refl _ _).alloc (Nat.le_refl _) _).alloc (by simp) _)
  go_enter Tryd.func16, Tryd.ntmps16
  go_wp2_with fail
  refine (HF.out _).mono ?_
  rintro e w1 ⟨rfl, g1⟩
  have B0 := Lib.hid (A0.out.kept g1)
  have B1 := Lib.hid (A1.out.kept g1)
  have G1 := Lib.hid (G0.out.trans (g1.mono (by simp; omega)))
  clear g1
  have c0 := B0.out.cell 0 rfl
  have cf0 := B0.out.free 0
  have c1 := B0.out.cell 1 rfl
  have cf1 := B0.out.free 1
  have c2 := B0.out.cell 2 rfl
  have cf2 := B0.out.free 2
  have c3 := B0.out.cell 3 rfl
  have cf3 := B0.out.free 3
  have d0 := B1.out.cell 0 rfl
  have df0 := B1.out.free 0
  have d1 := B1.out.cell 1 rfl
  have df1 := B1.out.free 1
  have d2 := B1.out.cell 2 rfl
  have df2 := B1.out.free 2
  have d3 := B1.out.cell 3 rfl
  have df3 := B1.out.free 3
  go_wp2
  have q := (((((B1.out.other (B' := w.heap.size) (by omega) 1 (tx (b ++ x))).set 0 (tx a) rfl).set 1 (tx (b ++ x)) rfl).set 2 (.int .i64 f) rfl).set 3 (.bool false) rfl)
  have q0 := q.cell 0 rfl
  have q1 := q.cell 1 rfl
  have q2 := q.cell 2 rfl
  have q3 := q.cell 3 rfl
  refine bodyPost_ret (v := .tuple #[papV (a, (b ++ x), f, false), .int .i64 0]) ?_ rfl ⟨rfl, ?_⟩
  · simp [results, Tryd.results16, go_sem, q0, q1, q2, q3]
  · exact (((((G1.out.setCell (p := ⟨_, 1, none⟩) (by simp) _).setCell (p := ⟨_, 0, none⟩) (by simp) _).setCell (p := ⟨_, 1, none⟩) (by simp) _).setCell (p := ⟨_, 2, none⟩) (by simp) _).setCell (p := ⟨_, 3, none⟩) (by simp) _)
set_option maxHeartbeats 1000000 in
theorem rappend_torn (a b x r : List UInt8) (n : Nat) (hx : a.length + b.length + x.length ≤ 1048576) (hf : n < x.length) (hl : a.length + b.length ≤ 4398046511104) (hxl : x.length ≤ 70000) (hr : r.length ≤ 140737488351232) (hR : Pp.frameR r = (x, 0)) (w : World) :
    Calls Tryd.prog 16 #[papV (a, b, n, false), tx r] w fun e w' => e = .returned (.tuple #[papV (a, (b ++ x.take n), 0, true), .int .i64 6]) ∧ Below w.heap.size w w' := by
  have t1 : decide ((1048576 : Int) < (a.length : Int) + (b.length : Int) + (x.length : Int)) = false := decide_eq_false (by omega)
  have t2 : decide ((n : Int) < 0) = false := decide_eq_false (by omega)
  have t3 : decide ((0 : Int) ≤ (n : Int)) = true := decide_eq_true (by omega)
  have t4 : decide (n < x.length) = true := decide_eq_true hf
  have t5 : (0 : Int) ≤ (n : Int) := by omega
  have t6 : (n : Int) ≤ (x.length : Int) := by omega
  have e1 : ∀ W, (Op.stringOp .add (⟨b.toArray⟩ : ByteArray) ((⟨x.toArray⟩ : ByteArray).extract 0 n)).run Tryd.prog W = .ok (tx (b ++ x.take n)) W := fun W => by rw [ba_take]; exact cat_run b (x.take n) (by rw [List.length_take]; omega) W
  have HF := Lib.hid (fun W  => rframe_eq hR hr W)
  clear hR
  have A0 := Lib.hid ((Blk.new w 34 [tx a, tx b, .int .i64 n, .bool false]).alloc (.cells #[tx [], tx [], .int .i64 0, .bool false] 34))
  have A1 := Lib.hid (by have h := Blk.new (w.alloc (.cells #[tx a, tx b, .int .i64 n, .bool false] 34)) 34 [tx [], tx [], .int .i64 0, .bool false]; rwa [World.size_alloc] at h : Blk ((w.alloc (.cells #[tx a, tx b, .int .i64 n, .bool false] 34)).alloc (.cells #[tx [], tx [], .int .i64 0, .bool false] 34)) (w.heap.size + 1) 34 [tx [], tx [], .int .i64 0, .bool false])
  have G0 := Lib.hid (show Below w.heap.size w ((w.alloc (.cells #[tx a, tx b, .int .i64 n, .bool false] 34)).alloc (.cells #[tx [], tx [], .int .i64 0, .bool false] 34)) from ((Below.refl _ _).alloc (Nat.le_refl _) _).alloc (by simp) _)
  go_enter Tryd.func16, Tryd.ntmps16
  go_wp2_with fail
  refine (HF.out _).mono ?_
  rintro e w1 ⟨rfl, g1⟩
  have B0 := Lib.hid (A0.out.kept g1)
  have B1 := Lib.hid (A1.out.kept g1)
  have G1 := Lib.hid (G0.out.trans (g1.mono (by simp; omega)))
  clear g1
  have c0 := B0.out.cell 0 rfl
  have cf0 := B0.out.free 0
  have c1 := B0.out.cell 1 rfl
  have cf1 := B0.out.free 1
  have c2 := B0.out.cell 2 rfl
  have cf2 := B0.out.free 2
  have c3 := B0.out.cell 3 rfl
  have cf3 := B0.out.free 3
  have d0 := B1.out.cell 0 rfl
  have df0 := B1.out.free 0
  have d1 := B1.out.cell 1 rfl
  have df1 := B1.out.free 1
  have d2 := B1.out.cell 2 rfl
  have df2 := B1.out.free 2
  have d3 := B1.out.cell 3 rfl
  have df3 := B1.out.free 3
  go_wp2_with fail
  go_region
  go_wp2
  have q := (((((((B1.out.other (B' := w.heap.size) (by omega) 1 (tx (b ++ x.take n))).other (B' := w.heap.size) (by omega) 2 (.int .i64 0)).other (B' := w.heap.size) (by omega) 3 (.bool true)).set 0 (tx a) rfl).set 1 (tx (b ++ x.take n)) rfl).set 2 (.int .i64 0) rfl).set 3 (.bool true) rfl)
  have q0 := q.cell 0 rfl
  have q1 := q.cell 1 rfl
  have q2 := q.cell 2 rfl
  have q3 := q.cell 3 rfl
  refine bodyPost_ret (v := .tuple #[papV (a, (b ++ x.take n), 0, true), .int .i64 6]) ?_ rfl ⟨rfl, ?_⟩
  · simp [results, Tryd.results16, go_sem, q0, q1, q2, q3]
  · exact Below.drew (((((((G1.out.setCell (p := ⟨_, 1, none⟩) (by simp) _).setCell (p := ⟨_, 2, none⟩) (by simp) _).setCell (p := ⟨_, 3, none⟩) (by simp) _).setCell (p := ⟨_, 0, none⟩) (by simp) _).setCell (p := ⟨_, 1, none⟩) (by simp) _).setCell (p := ⟨_, 2, none⟩) (by simp) _).setCell (p := ⟨_, 3, none⟩) (by simp) _)
set_option maxHeartbeats 1000000 in
theorem rappend_fits (a b x r : List UInt8) (n : Nat) (hx : a.length + b.length + x.length ≤ 1048576) (hf : x.length ≤ n) (hn : n ≤ 9223372036854775807) (hl : a.length + b.length ≤ 4398046511104) (hxl : x.length ≤ 70000) (hr : r.length ≤ 140737488351232) (hR : Pp.frameR r = (x, 0)) (w : World) :
    Calls Tryd.prog 16 #[papV (a, b, n, false), tx r] w fun e w' => e = .returned (.tuple #[papV (a, (b ++ x), ((n : Int) - (x.length : Int)), false), .int .i64 0]) ∧ Below w.heap.size w w' := by
  have t1 : decide ((1048576 : Int) < (a.length : Int) + (b.length : Int) + (x.length : Int)) = false := decide_eq_false (by omega)
  have t2 : decide ((n : Int) < 0) = false := decide_eq_false (by omega)
  have t3 : decide ((0 : Int) ≤ (n : Int)) = true := decide_eq_true (by omega)
  have t4 : decide (n < x.length) = false := decide_eq_false (by omega)
  have t5 : (0 : Int) ≤ (n : Int) := by omega
  have e1 := fun W => cat_run b x (by omega) W
  have t7 : IntKind.i64.wrap ((n : Int) - (x.length : Int)) = (n : Int) - (x.length : Int) := IntWalk.i64_in _ ⟨by omega, by omega⟩
  have HF := Lib.hid (fun W  => rframe_eq hR hr W)
  clear hR
  have A0 := Lib.hid ((Blk.new w 34 [tx a, tx b, .int .i64 n, .bool false]).alloc (.cells #[tx [], tx [], .int .i64 0, .bool false] 34))
  have A1 := Lib.hid (by have h := Blk.new (w.alloc (.cells #[tx a, tx b, .int .i64 n, .bool false] 34)) 34 [tx [], tx [], .int .i64 0, .bool false]; rwa [World.size_alloc] at h : Blk ((w.alloc (.cells #[tx a, tx b, .int .i64 n, .bool false] 34)).alloc (.cells #[tx [], tx [], .int .i64 0, .bool false] 34)) (w.heap.size + 1) 34 [tx [], tx [], .int .i64 0, .bool false])
  have G0 := Lib.hid (show Below w.heap.size w ((w.alloc (.cells #[tx a, tx b, .int .i64 n, .bool false] 34)).alloc (.cells #[tx [], tx [], .int .i64 0, .bool false] 34)) from ((Below.refl _ _).alloc (Nat.le_refl _) _).alloc (by simp) _)
  go_enter Tryd.func16, Tryd.ntmps16
  go_wp2_with fail
  refine (HF.out _).mono ?_
  rintro e w1 ⟨rfl, g1⟩
  have B0 := Lib.hid (A0.out.kept g1)
  have B1 := Lib.hid (A1.out.kept g1)
  have G1 := Lib.hid (G0.out.trans (g1.mono (by simp; omega)))
  clear g1
  have c0 := B0.out.cell 0 rfl
  have cf0 := B0.out.free 0
  have c1 := B0.out.cell 1 rfl
  have cf1 := B0.out.free 1
  have c2 := B0.out.cell 2 rfl
  have cf2 := B0.out.free 2
  have c3 := B0.out.cell 3 rfl
  have cf3 := B0.out.free 3
  have d0 := B1.out.cell 0 rfl
  have df0 := B1.out.free 0
  have d1 := B1.out.cell 1 rfl
  have df1 := B1.out.free 1
  have d2 := B1.out.cell 2 rfl
  have df2 := B1.out.free 2
  have d3 := B1.out.cell 3 rfl
  have df3 := B1.out.free 3
  go_wp2
  have q := ((((((B1.out.other (B' := w.heap.size) (by omega) 1 (tx (b ++ x))).other (B' := w.heap.size) (by omega) 2 (.int .i64 ((n : Int) - (x.length : Int)))).set 0 (tx a) rfl).set 1 (tx (b ++ x)) rfl).set 2 (.int .i64 ((n : Int) - (x.length : Int))) rfl).set 3 (.bool false) rfl)
  have q0 := q.cell 0 rfl
  have q1 := q.cell 1 rfl
  have q2 := q.cell 2 rfl
  have q3 := q.cell 3 rfl
  refine bodyPost_ret (v := .tuple #[papV (a, (b ++ x), ((n : Int) - (x.length : Int)), false), .int .i64 0]) ?_ rfl ⟨rfl, ?_⟩
  · simp [results, Tryd.results16, go_sem, q0, q1, q2, q3]
  · exact ((((((G1.out.setCell (p := ⟨_, 1, none⟩) (by simp) _).setCell (p := ⟨_, 2, none⟩) (by simp) _).setCell (p := ⟨_, 0, none⟩) (by simp) _).setCell (p := ⟨_, 1, none⟩) (by simp) _).setCell (p := ⟨_, 2, none⟩) (by simp) _).setCell (p := ⟨_, 3, none⟩) (by simp) _)
set_option maxHeartbeats 1000000 in
theorem pappend_big (a b x r : List UInt8) (f : Int) (o : Bool)  (_hl : a.length + b.length ≤ 4398046511104) (_hxl : x.length ≤ 70000) (hr : r.length ≤ 140737488351232) (hR : Pp.frameR r = ([], 4)) (w : World) (hw : GW w) :
    Calls Tryd.prog 15 #[papV (a, b, f, o), tx r] w fun e w' => e = .returned (.tuple #[papV (a, b, f, o), .int .i64 4]) ∧ Below w.heap.size w w' := by
  have GG := Lib.hid hw
  clear hw
  have HF := Lib.hid (fun W (h : GW W) => pframe_eq hR hr W h)
  clear hR
  have A0 := Lib.hid ((Blk.new w 34 [tx a, tx b, .int .i64 f, .bool o]).alloc (.cells #[tx [], tx [], .int .i64 0, .bool false] 34))
  have A1 := Lib.hid (by have h := Blk.new (w.alloc (.cells #[tx a, tx b, .int .i64 f, .bool o] 34)) 34 [tx [], tx [], .int .i64 0, .bool false]; rwa [World.size_alloc] at h : Blk ((w.alloc (.cells #[tx a, tx b, .int .i64 f, .bool o] 34)).alloc (.cells #[tx [], tx [], .int .i64 0, .bool false] 34)) (w.heap.size + 1) 34 [tx [], tx [], .int .i64 0, .bool false])
  have G0 := Lib.hid (show Below w.heap.size w ((w.alloc (.cells #[tx a, tx b, .int .i64 f, .bool o] 34)).alloc (.cells #[tx [], tx [], .int .i64 0, .bool false] 34)) from ((Below.refl _ _).alloc (Nat.le_refl _) _).alloc (by simp) _)
  have hmf : ∀ (fn : Fn) (first cap : Array Value) (w : World), (Instr.makeFunc fn first cap).run Tryd.prog w = .ok (.func fn first cap) w := fun _ _ _ _ => rfl
  go_enter_defers Tryd.func15, Tryd.ntmps15
  go_wp2_with fail
  refine (HF.out _ (GG.out.below G0.out)).mono ?_
  rintro e w1 ⟨rfl, g1⟩
  have B0 := Lib.hid (A0.out.kept g1)
  have B1 := Lib.hid (A1.out.kept g1)
  have G1 := Lib.hid (G0.out.trans (g1.mono (by simp; omega)))
  clear g1
  have c0 := B0.out.cell 0 rfl
  have cf0 := B0.out.free 0
  have c1 := B0.out.cell 1 rfl
  have cf1 := B0.out.free 1
  have c2 := B0.out.cell 2 rfl
  have cf2 := B0.out.free 2
  have c3 := B0.out.cell 3 rfl
  have cf3 := B0.out.free 3
  have d0 := B1.out.cell 0 rfl
  have df0 := B1.out.free 0
  have d1 := B1.out.cell 1 rfl
  have df1 := B1.out.free 1
  have d2 := B1.out.cell 2 rfl
  have df2 := B1.out.free 2
  have d3 := B1.out.cell 3 rfl
  have df3 := B1.out.free 3
  go_wp2
  have z0 := B0.out
  have z1 := B1.out
  refine leaves_cons (f := 32) (args := #[.pointer (some ⟨w.heap.size, 0, none⟩), .pointer (some ⟨w.heap.size + 1, 0, none⟩)]) (by simp) (by simp [go_sem]) ?_
  refine (append1_deferred (B0 := w.heap.size) (B1 := w.heap.size + 1) .returning _ z0 z1).mono ?_
  rintro e u' w2 ⟨rfl, rfl, q, hb⟩
  have q0 := q.cell 0 rfl
  have q1 := q.cell 1 rfl
  have q2 := q.cell 2 rfl
  have q3 := q.cell 3 rfl
  refine ⟨.tuple #[papV (a, b, f, o), .int .i64 4], ?_, rfl, ?_⟩
  · simp [results, Tryd.results15, go_sem, q0, q1, q2, q3]
  · exact Below.trans (G1.out) (hb _ (by omega))
set_option maxHeartbeats 1000000 in
theorem pappend_off (a b x r : List UInt8) (f : Int)  (_hl : a.length + b.length ≤ 4398046511104) (_hxl : x.length ≤ 70000) (hr : r.length ≤ 140737488351232) (hR : Pp.frameR r = (x, 0)) (w : World) (hw : GW w) :
    Calls Tryd.prog 15 #[papV (a, b, f, true), tx r] w fun e w' => e = .returned (.tuple #[papV (a, b, f, true), .int .i64 6]) ∧ Below w.heap.size w w' := by
  have GG := Lib.hid hw
  clear hw
  have HF := Lib.hid (fun W (h : GW W) => pframe_eq hR hr W h)
  clear hR
  have A0 := Lib.hid ((Blk.new w 34 [tx a, tx b, .int .i64 f, .bool true]).alloc (.cells #[tx [], tx [], .int .i64 0, .bool false] 34))
  have A1 := Lib.hid (by have h := Blk.new (w.alloc (.cells #[tx a, tx b, .int .i64 f, .bool true] 34)) 34 [tx [], tx [], .int .i64 0, .bool false]; rwa [World.size_alloc] at h : Blk ((w.alloc (.cells #[tx a, tx b, .int .i64 f, .bool true] 34)).alloc (.cells #[tx [], tx [], .int .i64 0, .bool false] 34)) (w.heap.size + 1) 34 [tx [], tx [], .int .i64 0, .bool false])
  have G0 := Lib.hid (show Below w.heap.size w ((w.alloc (.cells #[tx a, tx b, .int .i64 f, .bool true] 34)).alloc (.cells #[tx [], tx [], .int .i64 0, .bool false] 34)) from ((Below.refl _ _).alloc (Nat.le_refl _) _).alloc (by simp) _)
  have hmf : ∀ (fn : Fn) (first cap : Array Value) (w : World), (Instr.makeFunc fn first cap).run Tryd.prog w = .ok (.func fn first cap) w := fun _ _ _ _ => rfl
  go_enter_defers Tryd.func15, Tryd.ntmps15
  go_wp2_with fail
  refine (HF.out _ (GG.out.below G0.out)).mono ?_
  rintro e w1 ⟨rfl, g1⟩
  have B0 := Lib.hid (A0.out.kept g1)
  have B1 := Lib.hid (A1.out.kept g1)
  have G1 := Lib.hid (G0.out.trans (g1.mono (by simp; omega)))
  clear g1
  have c0 := B0.out.cell 0 rfl
  have cf0 := B0.out.free 0
  have c1 := B0.out.cell 1 rfl
  have cf1 := B0.out.free 1
  have c2 := B0.out.cell 2 rfl
  have cf2 := B0.out.free 2
  have c3 := B0.out.cell 3 rfl
  have cf3 := B0.out.free 3
  have d0 := B1.out.cell 0 rfl
  have df0 := B1.out.free 0
  have d1 := B1.out.cell 1 rfl
  have df1 := B1.out.free 1
  have d2 := B1.out.cell 2 rfl
  have df2 := B1.out.free 2
  have d3 := B1.out.cell 3 rfl
  have df3 := B1.out.free 3
  go_wp2
  have z0 := B0.out
  have z1 := B1.out
  refine leaves_cons (f := 32) (args := #[.pointer (some ⟨w.heap.size, 0, none⟩), .pointer (some ⟨w.heap.size + 1, 0, none⟩)]) (by simp) (by simp [go_sem]) ?_
  refine (append1_deferred (B0 := w.heap.size) (B1 := w.heap.size + 1) .returning _ z0 z1).mono ?_
  rintro e u' w2 ⟨rfl, rfl, q, hb⟩
  have q0 := q.cell 0 rfl
  have q1 := q.cell 1 rfl
  have q2 := q.cell 2 rfl
  have q3 := q.cell 3 rfl
  refine ⟨.tuple #[papV (a, b, f, true), .int .i64 6], ?_, rfl, ?_⟩
  · simp [results, Tryd.results15, go_sem, q0, q1, q2, q3]
  · exact Below.trans (G1.out) (hb _ (by omega))
set_option maxHeartbeats 1000000 in
theorem pappend_full (a b x r : List UInt8) (f : Int) (hx : 1048576 < a.length + b.length + x.length) (hl : a.length + b.length ≤ 4398046511104) (hxl : x.length ≤ 70000) (hr : r.length ≤ 140737488351232) (hR : Pp.frameR r = (x, 0)) (w : World) (hw : GW w) :
    Calls Tryd.prog 15 #[papV (a, b, f, false), tx r] w fun e w' => e = .returned (.tuple #[papV (a, b, f, false), .int .i64 5]) ∧ Below w.heap.size w w' := by
  have t1 : decide ((1048576 : Int) < (a.length : Int) + (b.length : Int) + (x.length : Int)) = true := decide_eq_true (by omega)
  have GG := Lib.hid hw
  clear hw
  have HF := Lib.hid (fun W (h : GW W) => pframe_eq hR hr W h)
  clear hR
  have A0 := Lib.hid ((Blk.new w 34 [tx a, tx b, .int .i64 f, .bool false]).alloc (.cells #[tx [], tx [], .int .i64 0, .bool false] 34))
  have A1 := Lib.hid (by have h := Blk.new (w.alloc (.cells #[tx a, tx b, .int .i64 f, .bool false] 34)) 34 [tx [], tx [], .int .i64 0, .bool false]; rwa [World.size_alloc] at h : Blk ((w.alloc (.cells #[tx a, tx b, .int .i64 f, .bool false] 34)).alloc (.cells #[tx [], tx [], .int .i64 0, .bool false] 34)) (w.heap.size + 1) 34 [tx [], tx [], .int .i64 0, .bool false])
  have G0 := Lib.hid (show Below w.heap.size w ((w.alloc (.cells #[tx a, tx b, .int .i64 f, .bool false] 34)).alloc (.cells #[tx [], tx [], .int .i64 0, .bool false] 34)) from ((Below.refl _ _).alloc (Nat.le_refl _) _).alloc (by simp) _)
  have hmf : ∀ (fn : Fn) (first cap : Array Value) (w : World), (Instr.makeFunc fn first cap).run Tryd.prog w = .ok (.func fn first cap) w := fun _ _ _ _ => rfl
  go_enter_defers Tryd.func15, Tryd.ntmps15
  go_wp2_with fail
  refine (HF.out _ (GG.out.below G0.out)).mono ?_
  rintro e w1 ⟨rfl, g1⟩
  have B0 := Lib.hid (A0.out.kept g1)
  have B1 := Lib.hid (A1.out.kept g1)
  have G1 := Lib.hid (G0.out.trans (g1.mono (by simp; omega)))
  clear g1
  have c0 := B0.out.cell 0 rfl
  have cf0 := B0.out.free 0
  have c1 := B0.out.cell 1 rfl
  have cf1 := B0.out.free 1
  have c2 := B0.out.cell 2 rfl
  have cf2 := B0.out.free 2
  have c3 := B0.out.cell 3 rfl
  have cf3 := B0.out.free 3
  have d0 := B1.out.cell 0 rfl
  have df0 := B1.out.free 0
  have d1 := B1.out.cell 1 rfl
  have df1 := B1.out.free 1
  have d2 := B1.out.cell 2 rfl
  have df2 := B1.out.free 2
  have d3 := B1.out.cell 3 rfl
  have df3 := B1.out.free 3
  go_wp2
  have z0 := B0.out
  have z1 := B1.out
  refine leaves_cons (f := 32) (args := #[.pointer (some ⟨w.heap.size, 0, none⟩), .pointer (some ⟨w.heap.size + 1, 0, none⟩)]) (by simp) (by simp [go_sem]) ?_
  refine (append1_deferred (B0 := w.heap.size) (B1 := w.heap.size + 1) .returning _ z0 z1).mono ?_
  rintro e u' w2 ⟨rfl, rfl, q, hb⟩
  have q0 := q.cell 0 rfl
  have q1 := q.cell 1 rfl
  have q2 := q.cell 2 rfl
  have q3 := q.cell 3 rfl
  refine ⟨.tuple #[papV (a, b, f, false), .int .i64 5], ?_, rfl, ?_⟩
  · simp [results, Tryd.results15, go_sem, q0, q1, q2, q3]
  · exact Below.trans (G1.out) (hb _ (by omega))
set_option maxHeartbeats 1000000 in
theorem pappend_any (a b x r : List UInt8) (f : Int) (hx : a.length + b.length + x.length ≤ 1048576) (hf : f < 0) (hl : a.length + b.length ≤ 4398046511104) (hxl : x.length ≤ 70000) (hr : r.length ≤ 140737488351232) (hR : Pp.frameR r = (x, 0)) (w : World) (hw : GW w) :
    Calls Tryd.prog 15 #[papV (a, b, f, false), tx r] w fun e w' => e = .returned (.tuple #[papV (a, (b ++ x), f, false), .int .i64 0]) ∧ Below w.heap.size w w' := by
  have t1 : decide ((1048576 : Int) < (a.length : Int) + (b.length : Int) + (x.length : Int)) = false := decide_eq_false (by omega)
  have t2 : decide (f < 0) = true := decide_eq_true hf
  have t3 : decide ((0 : Int) ≤ f) = false := decide_eq_false (by omega)
  have e1 := fun W => cat_run b x (by omega) W
  have GG := Lib.hid hw
  clear hw
  have HF := Lib.hid (fun W (h : GW W) => pframe_eq hR hr W h)
  clear hR
  have A0 := Lib.hid ((Blk.new w 34 [tx a, tx b, .int .i64 f, .bool false]).alloc (.cells #[tx [], tx [], .int .i64 0, .bool false] 34))
  have A1 := Lib.hid (by have h := Blk.new (w.alloc (.cells #[tx a, tx b, .int .i64 f, .bool false] 34)) 34 [tx [], tx [], .int .i64 0, .bool false]; rwa [World.size_alloc] at h : Blk ((w.alloc (.cells #[tx a, tx b, .int .i64 f, .bool false] 34)).alloc (.cells #[tx [], tx [], .int .i64 0, .bool false] 34)) (w.heap.size + 1) 34 [tx [], tx [], .int .i64 0, .bool false])
  have G0 := Lib.hid (show Below w.heap.size w ((w.alloc (.cells #[tx a, tx b, .int .i64 f, .bool false] 34)).alloc (.cells #[tx [], tx [], .int .i64 0, .bool false] 34)) from ((Below.refl _ _).alloc (Nat.le_refl _) _).alloc (by simp) _)
  have hmf : ∀ (fn : Fn) (first cap : Array Value) (w : World), (Instr.makeFunc fn first cap).run Tryd.prog w = .ok (.func fn first cap) w := fun _ _ _ _ => rfl
  go_enter_defers Tryd.func15, Tryd.ntmps15
  go_wp2_with fail
  refine (HF.out _ (GG.out.below G0.out)).mono ?_
  rintro e w1 ⟨rfl, g1⟩
  have B0 := Lib.hid (A0.out.kept g1)
  have B1 := Lib.hid (A1.out.kept g1)
  have G1 := Lib.hid (G0.out.trans (g1.mono (by simp; omega)))
  clear g1
  have c0 := B0.out.cell 0 rfl
  have cf0 := B0.out.free 0
  have c1 := B0.out.cell 1 rfl
  have cf1 := B0.out.free 1
  have c2 := B0.out.cell 2 rfl
  have cf2 := B0.out.free 2
  have c3 := B0.out.cell 3 rfl
  have cf3 := B0.out.free 3
  have d0 := B1.out.cell 0 rfl
  have df0 := B1.out.free 0
  have d1 := B1.out.cell 1 rfl
  have df1 := B1.out.free 1
  have d2 := B1.out.cell 2 rfl
  have df2 := B1.out.free 2
  have d3 := B1.out.cell 3 rfl
  have df3 := B1.out.free 3
  go_wp2
  have z0 := (B0.out.set 1 (tx (b ++ x)) rfl)
  have z1 := (B1.out.other (B' := w.heap.size) (by omega) 1 (tx (b ++ x)))
  refine leaves_cons (f := 32) (args := #[.pointer (some ⟨w.heap.size, 0, none⟩), .pointer (some ⟨w.heap.size + 1, 0, none⟩)]) (by simp) (by simp [go_sem]) ?_
  refine (append1_deferred (B0 := w.heap.size) (B1 := w.heap.size + 1) .returning _ z0 z1).mono ?_
  rintro e u' w2 ⟨rfl, rfl, q, hb⟩
  have q0 := q.cell 0 rfl
  have q1 := q.cell 1 rfl
  have q2 := q.cell 2 rfl
  have q3 := q.cell 3 rfl
  refine ⟨.tuple #[papV (a, (b ++ x), f, false), .int .i64 0], ?_, rfl, ?_⟩
  · simp [results, Tryd.results15, go_sem, q0, q1, q2, q3]
  · exact Below.trans ((G1.out.setCell (p := ⟨_, 1, none⟩) (by simp) _)) (hb _ (by omega))
set_option maxHeartbeats 1000000 in
theorem pappend_torn (a b x r : List UInt8) (n : Nat) (hx : a.length + b.length + x.length ≤ 1048576) (hf : n < x.length) (hl : a.length + b.length ≤ 4398046511104) (hxl : x.length ≤ 70000) (hr : r.length ≤ 140737488351232) (hR : Pp.frameR r = (x, 0)) (w : World) (hw : GW w) :
    Calls Tryd.prog 15 #[papV (a, b, n, false), tx r] w fun e w' => e = .returned (.tuple #[papV (a, (b ++ x.take n), 0, true), .int .i64 6]) ∧ Below w.heap.size w w' := by
  have t1 : decide ((1048576 : Int) < (a.length : Int) + (b.length : Int) + (x.length : Int)) = false := decide_eq_false (by omega)
  have t2 : decide ((n : Int) < 0) = false := decide_eq_false (by omega)
  have t3 : decide ((0 : Int) ≤ (n : Int)) = true := decide_eq_true (by omega)
  have t4 : decide (n < x.length) = true := decide_eq_true hf
  have t5 : (0 : Int) ≤ (n : Int) := by omega
  have t6 : (n : Int) ≤ (x.length : Int) := by omega
  have e1 : ∀ W, (Op.stringOp .add (⟨b.toArray⟩ : ByteArray) ((⟨x.toArray⟩ : ByteArray).extract 0 n)).run Tryd.prog W = .ok (tx (b ++ x.take n)) W := fun W => by rw [ba_take]; exact cat_run b (x.take n) (by rw [List.length_take]; omega) W
  have GG := Lib.hid hw
  clear hw
  have HF := Lib.hid (fun W (h : GW W) => pframe_eq hR hr W h)
  clear hR
  have A0 := Lib.hid ((Blk.new w 34 [tx a, tx b, .int .i64 n, .bool false]).alloc (.cells #[tx [], tx [], .int .i64 0, .bool false] 34))
  have A1 := Lib.hid (by have h := Blk.new (w.alloc (.cells #[tx a, tx b, .int .i64 n, .bool false] 34)) 34 [tx [], tx [], .int .i64 0, .bool false]; rwa [World.size_alloc] at h : Blk ((w.alloc (.cells #[tx a, tx b, .int .i64 n, .bool false] 34)).alloc (.cells #[tx [], tx [], .int .i64 0, .bool false] 34)) (w.heap.size + 1) 34 [tx [], tx [], .int .i64 0, .bool false])
  have G0 := Lib.hid (show Below w.heap.size w ((w.alloc (.cells #[tx a, tx b, .int .i64 n, .bool false] 34)).alloc (.cells #[tx [], tx [], .int .i64 0, .bool false] 34)) from ((Below.refl _ _).alloc (Nat.le_refl _) _).alloc (by simp) _)
  have hmf : ∀ (fn : Fn) (first cap : Array Value) (w : World), (Instr.makeFunc fn first cap).run Tryd.prog w = .ok (.func fn first cap) w := fun _ _ _ _ => rfl
  go_enter_defers Tryd.func15, Tryd.ntmps15
  go_wp2_with fail
  refine (HF.out _ (GG.out.below G0.out)).mono ?_
  rintro e w1 ⟨rfl, g1⟩
  have B0 := Lib.hid (A0.out.kept g1)
  have B1 := Lib.hid (A1.out.kept g1)
  have G1 := Lib.hid (G0.out.trans (g1.mono (by simp; omega)))
  clear g1
  have c0 := B0.out.cell 0 rfl
  have cf0 := B0.out.free 0
  have c1 := B0.out.cell 1 rfl
  have cf1 := B0.out.free 1
  have c2 := B0.out.cell 2 rfl
  have cf2 := B0.out.free 2
  have c3 := B0.out.cell 3 rfl
  have cf3 := B0.out.free 3
  have d0 := B1.out.cell 0 rfl
  have df0 := B1.out.free 0
  have d1 := B1.out.cell 1 rfl
  have df1 := B1.out.free 1
  have d2 := B1.out.cell 2 rfl
  have df2 := B1.out.free 2
  have d3 := B1.out.cell 3 rfl
  have df3 := B1.out.free 3
  go_wp2_with fail
  go_region
  go_wp2
  have z0 := (((B0.out.set 1 (tx (b ++ x.take n)) rfl).set 2 (.int .i64 0) rfl).set 3 (.bool true) rfl)
  have z1 := (((B1.out.other (B' := w.heap.size) (by omega) 1 (tx (b ++ x.take n))).other (B' := w.heap.size) (by omega) 2 (.int .i64 0)).other (B' := w.heap.size) (by omega) 3 (.bool true))
  refine leaves_cons (f := 32) (args := #[.pointer (some ⟨w.heap.size, 0, none⟩), .pointer (some ⟨w.heap.size + 1, 0, none⟩)]) (by simp) (by simp [go_sem]) ?_
  refine (append1_deferred (B0 := w.heap.size) (B1 := w.heap.size + 1) .returning _ z0.drew z1.drew).mono ?_
  rintro e u' w2 ⟨rfl, rfl, q, hb⟩
  have q0 := q.cell 0 rfl
  have q1 := q.cell 1 rfl
  have q2 := q.cell 2 rfl
  have q3 := q.cell 3 rfl
  refine ⟨.tuple #[papV (a, (b ++ x.take n), 0, true), .int .i64 6], ?_, rfl, ?_⟩
  · simp [results, Tryd.results15, go_sem, q0, q1, q2, q3]
  · exact Below.trans (Below.drew (((G1.out.setCell (p := ⟨_, 1, none⟩) (by simp) _).setCell (p := ⟨_, 2, none⟩) (by simp) _).setCell (p := ⟨_, 3, none⟩) (by simp) _)) (hb _ (by omega))
set_option maxHeartbeats 1000000 in
theorem pappend_fits (a b x r : List UInt8) (n : Nat) (hx : a.length + b.length + x.length ≤ 1048576) (hf : x.length ≤ n) (hn : n ≤ 9223372036854775807) (hl : a.length + b.length ≤ 4398046511104) (hxl : x.length ≤ 70000) (hr : r.length ≤ 140737488351232) (hR : Pp.frameR r = (x, 0)) (w : World) (hw : GW w) :
    Calls Tryd.prog 15 #[papV (a, b, n, false), tx r] w fun e w' => e = .returned (.tuple #[papV (a, (b ++ x), ((n : Int) - (x.length : Int)), false), .int .i64 0]) ∧ Below w.heap.size w w' := by
  have t1 : decide ((1048576 : Int) < (a.length : Int) + (b.length : Int) + (x.length : Int)) = false := decide_eq_false (by omega)
  have t2 : decide ((n : Int) < 0) = false := decide_eq_false (by omega)
  have t3 : decide ((0 : Int) ≤ (n : Int)) = true := decide_eq_true (by omega)
  have t4 : decide (n < x.length) = false := decide_eq_false (by omega)
  have t5 : (0 : Int) ≤ (n : Int) := by omega
  have e1 := fun W => cat_run b x (by omega) W
  have t7 : IntKind.i64.wrap ((n : Int) - (x.length : Int)) = (n : Int) - (x.length : Int) := IntWalk.i64_in _ ⟨by omega, by omega⟩
  have GG := Lib.hid hw
  clear hw
  have HF := Lib.hid (fun W (h : GW W) => pframe_eq hR hr W h)
  clear hR
  have A0 := Lib.hid ((Blk.new w 34 [tx a, tx b, .int .i64 n, .bool false]).alloc (.cells #[tx [], tx [], .int .i64 0, .bool false] 34))
  have A1 := Lib.hid (by have h := Blk.new (w.alloc (.cells #[tx a, tx b, .int .i64 n, .bool false] 34)) 34 [tx [], tx [], .int .i64 0, .bool false]; rwa [World.size_alloc] at h : Blk ((w.alloc (.cells #[tx a, tx b, .int .i64 n, .bool false] 34)).alloc (.cells #[tx [], tx [], .int .i64 0, .bool false] 34)) (w.heap.size + 1) 34 [tx [], tx [], .int .i64 0, .bool false])
  have G0 := Lib.hid (show Below w.heap.size w ((w.alloc (.cells #[tx a, tx b, .int .i64 n, .bool false] 34)).alloc (.cells #[tx [], tx [], .int .i64 0, .bool false] 34)) from ((Below.refl _ _).alloc (Nat.le_refl _) _).alloc (by simp) _)
  have hmf : ∀ (fn : Fn) (first cap : Array Value) (w : World), (Instr.makeFunc fn first cap).run Tryd.prog w = .ok (.func fn first cap) w := fun _ _ _ _ => rfl
  go_enter_defers Tryd.func15, Tryd.ntmps15
  go_wp2_with fail
  refine (HF.out _ (GG.out.below G0.out)).mono ?_
  rintro e w1 ⟨rfl, g1⟩
  have B0 := Lib.hid (A0.out.kept g1)
  have B1 := Lib.hid (A1.out.kept g1)
  have G1 := Lib.hid (G0.out.trans (g1.mono (by simp; omega)))
  clear g1
  have c0 := B0.out.cell 0 rfl
  have cf0 := B0.out.free 0
  have c1 := B0.out.cell 1 rfl
  have cf1 := B0.out.free 1
  have c2 := B0.out.cell 2 rfl
  have cf2 := B0.out.free 2
  have c3 := B0.out.cell 3 rfl
  have cf3 := B0.out.free 3
  have d0 := B1.out.cell 0 rfl
  have df0 := B1.out.free 0
  have d1 := B1.out.cell 1 rfl
  have df1 := B1.out.free 1
  have d2 := B1.out.cell 2 rfl
  have df2 := B1.out.free 2
  have d3 := B1.out.cell 3 rfl
  have df3 := B1.out.free 3
  go_wp2
  have z0 := ((B0.out.set 1 (tx (b ++ x)) rfl).set 2 (.int .i64 ((n : Int) - (x.length : Int))) rfl)
  have z1 := ((B1.out.other (B' := w.heap.size) (by omega) 1 (tx (b ++ x))).other (B' := w.heap.size) (by omega) 2 (.int .i64 ((n : Int) - (x.length : Int))))
  refine leaves_cons (f := 32) (args := #[.pointer (some ⟨w.heap.size, 0, none⟩), .pointer (some ⟨w.heap.size + 1, 0, none⟩)]) (by simp) (by simp [go_sem]) ?_
  refine (append1_deferred (B0 := w.heap.size) (B1 := w.heap.size + 1) .returning _ z0 z1).mono ?_
  rintro e u' w2 ⟨rfl, rfl, q, hb⟩
  have q0 := q.cell 0 rfl
  have q1 := q.cell 1 rfl
  have q2 := q.cell 2 rfl
  have q3 := q.cell 3 rfl
  refine ⟨.tuple #[papV (a, (b ++ x), ((n : Int) - (x.length : Int)), false), .int .i64 0], ?_, rfl, ?_⟩
  · simp [results, Tryd.results15, go_sem, q0, q1, q2, q3]
  · exact Below.trans (((G1.out.setCell (p := ⟨_, 1, none⟩) (by simp) _).setCell (p := ⟨_, 2, none⟩) (by simp) _)) (hb _ (by omega))
end Go.Proofs.YtkkiedmcpibnaaaDoor
