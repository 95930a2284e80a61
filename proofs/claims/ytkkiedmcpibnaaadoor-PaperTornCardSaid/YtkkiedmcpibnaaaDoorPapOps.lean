/- Package paper as it landed, and the document's: Records, Sync, Arm, Crash. -/
import Derived.Test.YtkkiedmcpibnaaaDoorPapRRead
import Derived.Test.YtkkiedmcpibnaaaDoorBlk
namespace Pp
abbrev P := List UInt8 × List UInt8 × Int × Bool
def syncR (p : P) : P × Nat := if p.2.2.2 = true then (p, 6) else ((p.1 ++ p.2.1, [], p.2.2.1, p.2.2.2), 0)
def armR (p : P) (f : Int) : P := (p.1, p.2.1, (if f < -1 then -1 else f), p.2.2.2)
def keepN (n : Nat) (k : Int) : Nat := if k < 0 then 0 else if (n : Int) < k then n else k.toNat
end Pp
namespace Go.Proofs.YtkkiedmcpibnaaaDoor
open Go.RowKit
set_option maxRecDepth 100000
attribute [local go_sem] ByteArray.mk_append_mk
abbrev papV (p : Pp.P) : Value := .agg #[tx p.1, tx p.2.1, .int .i64 p.2.2.1, .bool p.2.2.2]

set_option maxHeartbeats 2000000 in
theorem psync (a b : List UInt8) (f : Int) (o : Bool) (hl : a.length + b.length ≤ 9223372036854775807) (w : World) :
    Calls Tryd.prog 17 #[papV (a, b, f, o)] w fun e w' => e = .returned (.tuple #[papV (Pp.syncR (a, b, f, o)).1, .int .i64 (Pp.syncR (a, b, f, o)).2]) ∧ Below w.heap.size w w' := by
  have e1 := fun W => cat_run a b (by omega) W
  have a0 := (Blk.new w 34 [tx a, tx b, .int .i64 f, .bool o]).alloc (.cells #[tx [], tx [], .int .i64 0, .bool false] 34)
  have a1 := Blk.new (w.alloc (.cells #[tx a, tx b, .int .i64 f, .bool o] 34)) 34 [tx [], tx [], .int .i64 0, .bool false]
  rw [World.size_alloc] at a1
  have c0 := a0.cell 0 rfl
  have f0 := a0.free 0
  have d0 := a1.cell 0 rfl
  have k0 := a1.free 0
  have c1 := a0.cell 1 rfl
  have f1 := a0.free 1
  have d1 := a1.cell 1 rfl
  have k1 := a1.free 1
  have c2 := a0.cell 2 rfl
  have f2 := a0.free 2
  have d2 := a1.cell 2 rfl
  have k2 := a1.free 2
  have c3 := a0.cell 3 rfl
  have f3 := a0.free 3
  have d3 := a1.cell 3 rfl
  have k3 := a1.free 3
  clear a0 a1
  cases o with
  | true =>
    go_enter Tryd.func17, Tryd.ntmps17
    go_wp2
    have q := Blk.new (w.alloc (.cells #[tx a, tx b, .int .i64 f, .bool true] 34)) 34 [tx a, tx b, .int .i64 f, .bool true]
    rw [World.size_alloc] at q
    have q0 := q.cell 0 rfl
    have q1 := q.cell 1 rfl
    have q2 := q.cell 2 rfl
    have q3 := q.cell 3 rfl
    refine bodyPost_ret (v := .tuple #[papV (a, b, f, true), .int .i64 6]) ?_ rfl ⟨rfl, ?_⟩
    · simp [results, Tryd.results17, go_sem, q0, q1, q2, q3]
    · exact ((Below.refl _ _).alloc (Nat.le_refl _) _).alloc (by simp) _
  | false =>
    go_enter Tryd.func17, Tryd.ntmps17
    go_wp2
    have q := Blk.new (w.alloc (.cells #[tx (a ++ b), tx [], .int .i64 f, .bool false] 34)) 34 [tx (a ++ b), tx [], .int .i64 f, .bool false]
    rw [World.size_alloc] at q
    have q0 := q.cell 0 rfl
    have q1 := q.cell 1 rfl
    have q2 := q.cell 2 rfl
    have q3 := q.cell 3 rfl
    refine bodyPost_ret (v := .tuple #[papV (a ++ b, [], f, false), .int .i64 0]) ?_ rfl ⟨rfl, ?_⟩
    · simp [results, Tryd.results17, go_sem, q0, q1, q2, q3]
    · exact ((Below.refl _ _).alloc (Nat.le_refl _) _).alloc (by simp) _

set_option maxHeartbeats 2000000 in
theorem parm_lo (a b : List UInt8) (f k : Int) (o : Bool) (hk : k < -1) (w : World) :
    Calls Tryd.prog 23 #[papV (a, b, f, o), .int .i64 k] w fun e w' => e = .returned (papV (Pp.armR (a, b, f, o) k)) ∧ Below w.heap.size w w' := by
  have E := Lib.hid (show Pp.armR (a, b, f, o) k = (a, b, -1, o) by simp [Pp.armR, hk])
  have t1 : max k (-1) = -1 := by omega
  have a0 := (Blk.new w 34 [tx a, tx b, .int .i64 f, .bool o]).alloc (.cells #[tx [], tx [], .int .i64 0, .bool false] 34)
  have a1 := Blk.new (w.alloc (.cells #[tx a, tx b, .int .i64 f, .bool o] 34)) 34 [tx [], tx [], .int .i64 0, .bool false]
  rw [World.size_alloc] at a1
  have c0 := a0.cell 0 rfl
  have f0 := a0.free 0
  have d0 := a1.cell 0 rfl
  have k0 := a1.free 0
  have c1 := a0.cell 1 rfl
  have f1 := a0.free 1
  have d1 := a1.cell 1 rfl
  have k1 := a1.free 1
  have c2 := a0.cell 2 rfl
  have f2 := a0.free 2
  have d2 := a1.cell 2 rfl
  have k2 := a1.free 2
  have c3 := a0.cell 3 rfl
  have f3 := a0.free 3
  have d3 := a1.cell 3 rfl
  have k3 := a1.free 3
  clear a0 a1
  go_enter Tryd.func23, Tryd.ntmps23
  go_wp2
  have q := Blk.new (w.alloc (.cells #[tx a, tx b, .int .i64 (-1), .bool o] 34)) 34 [tx a, tx b, .int .i64 (-1), .bool o]
  rw [World.size_alloc] at q
  have q0 := q.cell 0 rfl
  have q1 := q.cell 1 rfl
  have q2 := q.cell 2 rfl
  have q3 := q.cell 3 rfl
  refine bodyPost_ret (v := papV (a, b, -1, o)) ?_ rfl ⟨by rw [E.out], ?_⟩
  · simp [results, Tryd.results23, go_sem, q0, q1, q2, q3]
  · exact ((Below.refl _ _).alloc (Nat.le_refl _) _).alloc (by simp) _

set_option maxHeartbeats 2000000 in
theorem parm_hi (a b : List UInt8) (f k : Int) (o : Bool) (hk : ¬ k < -1) (w : World) :
    Calls Tryd.prog 23 #[papV (a, b, f, o), .int .i64 k] w fun e w' => e = .returned (papV (Pp.armR (a, b, f, o) k)) ∧ Below w.heap.size w w' := by
  have E := Lib.hid (show Pp.armR (a, b, f, o) k = (a, b, k, o) by simp [Pp.armR, hk])
  have t1 : max k (-1) = k := by omega
  have a0 := (Blk.new w 34 [tx a, tx b, .int .i64 f, .bool o]).alloc (.cells #[tx [], tx [], .int .i64 0, .bool false] 34)
  have a1 := Blk.new (w.alloc (.cells #[tx a, tx b, .int .i64 f, .bool o] 34)) 34 [tx [], tx [], .int .i64 0, .bool false]
  rw [World.size_alloc] at a1
  have c0 := a0.cell 0 rfl
  have f0 := a0.free 0
  have d0 := a1.cell 0 rfl
  have k0 := a1.free 0
  have c1 := a0.cell 1 rfl
  have f1 := a0.free 1
  have d1 := a1.cell 1 rfl
  have k1 := a1.free 1
  have c2 := a0.cell 2 rfl
  have f2 := a0.free 2
  have d2 := a1.cell 2 rfl
  have k2 := a1.free 2
  have c3 := a0.cell 3 rfl
  have f3 := a0.free 3
  have d3 := a1.cell 3 rfl
  have k3 := a1.free 3
  clear a0 a1
  go_enter Tryd.func23, Tryd.ntmps23
  go_wp2
  have q := Blk.new (w.alloc (.cells #[tx a, tx b, .int .i64 (k), .bool o] 34)) 34 [tx a, tx b, .int .i64 (k), .bool o]
  rw [World.size_alloc] at q
  have q0 := q.cell 0 rfl
  have q1 := q.cell 1 rfl
  have q2 := q.cell 2 rfl
  have q3 := q.cell 3 rfl
  refine bodyPost_ret (v := papV (a, b, k, o)) ?_ rfl ⟨by rw [E.out], ?_⟩
  · simp [results, Tryd.results23, go_sem, q0, q1, q2, q3]
  · exact ((Below.refl _ _).alloc (Nat.le_refl _) _).alloc (by simp) _

theorem pread_eqC {s t : List UInt8} {rs : List (List UInt8)} {k : Nat} (hR : Pp.Rd s rs t) (hk : (Pp.frs rs).length = k) (hs : s.length ≤ 4398046511104) (w : World) (hg : GW w) :
    Calls Tryd.prog 12 #[tx s] w fun e w' => ∃ v, e = .returned (.tuple #[v, .int .i64 (k : Int)]) ∧ TxAt w' v rs ∧ CapOk v ∧ Below w.heap.size w w' := by subst hk; exact pread_cap s t rs hs hR w hg
theorem pread_eq {s t : List UInt8} {rs : List (List UInt8)} {k : Nat} (hR : Pp.Rd s rs t) (hk : (Pp.frs rs).length = k) (hs : s.length ≤ 4398046511104) (w : World) (hg : GW w) :
    Calls Tryd.prog 12 #[tx s] w fun e w' => ∃ v, e = .returned (.tuple #[v, .int .i64 (k : Int)]) ∧ TxAt w' v rs ∧ Below w.heap.size w w' := by subst hk; exact pread s t rs hs hR w hg
set_option maxHeartbeats 2000000 in
theorem precords_cap {a b t : List UInt8} {rs : List (List UInt8)} (f : Int) (o : Bool) (hR : Pp.Rd (a ++ b) rs t) (hl : a.length + b.length ≤ 4398046511104) (w : World) (hg : GW w) :
    Calls Tryd.prog 19 #[papV (a, b, f, o)] w fun e w' => ∃ v, e = .returned v ∧ TxAt w' v rs ∧ CapOk v ∧ Below w.heap.size w w' := by
  have e1 := fun W => cat_run a b (by omega) W
  have HR := Lib.hid (pread_eqC hR rfl (by rw [List.length_append]; omega))
  have HG := Lib.hid hg
  clear hg hR
  have a0 := Blk.new w 34 [tx a, tx b, .int .i64 f, .bool o]
  have c0 := a0.cell 0 rfl
  have c1 := a0.cell 1 rfl
  have c2 := a0.cell 2 rfl
  have c3 := a0.cell 3 rfl
  have G0 := Lib.hid (show Below w.heap.size w (w.alloc (.cells #[tx a, tx b, .int .i64 f, .bool o] 34)) from (Below.refl _ _).alloc (Nat.le_refl _) _)
  clear a0
  go_enter Tryd.func19, Tryd.ntmps19
  go_wp2_with fail
  refine (HR.out _ (HG.out.below G0.out)).mono ?_
  rintro e w1 ⟨v, rfl, hv, hcap, g1⟩
  have HV := Lib.hid hv
  have HCAP := Lib.hid hcap
  obtain ⟨m1, m2, rfl⟩ := hv.len
  clear hv hcap
  go_wp2
  go_ret
  exact ⟨_, rfl, HV.out, HCAP.out, G0.out.trans (g1.mono (by simp))⟩
theorem precords {a b t : List UInt8} {rs : List (List UInt8)} (f : Int) (o : Bool) (hR : Pp.Rd (a ++ b) rs t) (hl : a.length + b.length ≤ 4398046511104) (w : World) (hg : GW w) :
    Calls Tryd.prog 19 #[papV (a, b, f, o)] w fun e w' => ∃ v, e = .returned v ∧ TxAt w' v rs ∧ Below w.heap.size w w' :=
  (precords_cap f o hR hl w hg).mono fun _ _ ⟨v, h1, h2, _, h3⟩ => ⟨v, h1, h2, h3⟩
theorem keep_eq (n : Nat) (k : Int) : max 0 (min k (n : Int)) = (Pp.keepN n k : Int) := by
  unfold Pp.keepN
  split
  · omega
  · split <;> omega
theorem keep_le (n : Nat) (k : Int) : Pp.keepN n k ≤ n := by
  unfold Pp.keepN
  split
  · omega
  · split <;> omega
set_option maxHeartbeats 4000000 in
theorem pcrash {a b t : List UInt8} {rs : List (List UInt8)} (f : Int) (o : Bool) (k : Int) (hR : Pp.Rd (a ++ b.take (Pp.keepN b.length k)) rs t) (hl : a.length + b.length ≤ 4398046511104) (w : World) (hg : GW w) :
    Calls Tryd.prog 21 #[papV (a, b, f, o), .int .i64 k] w fun e w' => e = .returned (papV (Pp.frs rs, [], -1, false)) ∧ Below w.heap.size w w' := by
  obtain ⟨m, hm⟩ : ∃ m, Pp.keepN b.length k = m := ⟨_, rfl⟩
  have hmax := keep_eq b.length k
  have hmb := keep_le b.length k
  rw [hm] at hR hmax hmb
  have hrl := Pp.rd_len hR
  obtain ⟨s, hs⟩ : ∃ s, a ++ b.take m = s := ⟨_, rfl⟩
  have hsl := congrArg List.length hs
  rw [List.length_append, List.length_take] at hsl
  have e1 : ∀ W, (Op.stringOp .add (⟨a.toArray⟩ : ByteArray) ((⟨b.toArray⟩ : ByteArray).extract 0 m)).run Tryd.prog W = .ok (tx s) W := fun W => by rw [ba_take, ← hs]; exact cat_run a (b.take m) (by rw [List.length_take]; omega) W
  rw [hs] at hR
  obtain ⟨n, hn⟩ : ∃ n, (Pp.frs rs).length = n := ⟨_, rfl⟩
  obtain ⟨s', hs'⟩ : ∃ s', Pp.frs rs = s' := ⟨_, rfl⟩
  have hns : n ≤ s.length := by rw [← hn, congrArg List.length hR.eq, List.length_append]; omega
  have HT := Lib.hid (show s.take n = s' by rw [← hn, hR.eq, List.take_left, hs'])
  have HR := Lib.hid (pread_eq hR hn (by omega))
  have HG := Lib.hid hg
  have E := Lib.hid hs'
  have t1 : (0 : Int) ≤ (m : Int) := by omega
  have t2 : (m : Int) ≤ (b.length : Int) := by omega
  have t3 : (0 : Int) ≤ (n : Int) := by omega
  have t4 : (n : Int) ≤ (s.length : Int) := by omega
  clear hg hR hs hs' hn hm hsl hrl
  have A1 := Lib.hid (by have h := Blk.new (w.alloc (.cells #[tx a, tx b, .int .i64 f, .bool o] 34)) 34 [tx [], tx [], .int .i64 0, .bool false]; rwa [World.size_alloc] at h : Blk ((w.alloc (.cells #[tx a, tx b, .int .i64 f, .bool o] 34)).alloc (.cells #[tx [], tx [], .int .i64 0, .bool false] 34)) (w.heap.size + 1) 34 [tx [], tx [], .int .i64 0, .bool false])
  have G0 := Lib.hid (show Below w.heap.size w ((w.alloc (.cells #[tx a, tx b, .int .i64 f, .bool o] 34)).alloc (.cells #[tx [], tx [], .int .i64 0, .bool false] 34)) from ((Below.refl _ _).alloc (Nat.le_refl _) _).alloc (by simp) _)
  have a0 := (Blk.new w 34 [tx a, tx b, .int .i64 f, .bool o]).alloc (.cells #[tx [], tx [], .int .i64 0, .bool false] 34)
  have a1 := Blk.new (w.alloc (.cells #[tx a, tx b, .int .i64 f, .bool o] 34)) 34 [tx [], tx [], .int .i64 0, .bool false]
  rw [World.size_alloc] at a1
  have c0 := a0.cell 0 rfl
  have f0 := a0.free 0
  have d0 := a1.cell 0 rfl
  have k0 := a1.free 0
  have c1 := a0.cell 1 rfl
  have f1 := a0.free 1
  have d1 := a1.cell 1 rfl
  have k1 := a1.free 1
  have c2 := a0.cell 2 rfl
  have f2 := a0.free 2
  have d2 := a1.cell 2 rfl
  have k2 := a1.free 2
  have c3 := a0.cell 3 rfl
  have f3 := a0.free 3
  have d3 := a1.cell 3 rfl
  have k3 := a1.free 3
  clear a0 a1
  go_enter Tryd.func21, Tryd.ntmps21
  go_wp2_with fail
  go_quiet (fail)
  go_wp2_with fail
  refine (HR.out _ (HG.out.below (below_drewN G0.out nq))).mono ?_
  rintro e w1 ⟨v, rfl, -, g1⟩
  have A2 := Lib.hid ((A1.out.drewN nq).kept g1)
  have G2 := Lib.hid ((below_drewN G0.out nq).trans (g1.mono (by simp; omega)))
  clear g1 c0 c1 c2 c3 f0 f1 f2 f3 d0 d1 d2 d3 k0 k1 k2 k3
  have d0 := A2.out.cell 0 rfl
  have d1 := A2.out.cell 1 rfl
  have d2 := A2.out.cell 2 rfl
  have d3 := A2.out.cell 3 rfl
  have k0 := A2.out.free 0
  have k1 := A2.out.free 1
  have k2 := A2.out.free 2
  have k3 := A2.out.free 3
  go_wp2
  simp only [ba_take, HT.out]
  have q := (((A2.out.set 0 (tx s') rfl).set 1 (tx []) rfl).set 2 (.int .i64 (-1)) rfl).set 3 (.bool false) rfl
  have q0 := q.cell 0 rfl
  have q1 := q.cell 1 rfl
  have q2 := q.cell 2 rfl
  have q3 := q.cell 3 rfl
  refine bodyPost_ret (v := papV (s', [], -1, false)) ?_ rfl ⟨by rw [E.out], ?_⟩
  · simp [results, Tryd.results21, go_sem, q0, q1, q2, q3]
  · exact (((G2.out.setCell (p := ⟨_, 0, none⟩) (by simp) _).setCell (p := ⟨_, 1, none⟩) (by simp) _).setCell (p := ⟨_, 2, none⟩) (by simp) _).setCell (p := ⟨_, 3, none⟩) (by simp) _
set_option maxHeartbeats 2000000 in
theorem rsync (a b : List UInt8) (f : Int) (o : Bool) (hl : a.length + b.length ≤ 9223372036854775807) (w : World) :
    Calls Tryd.prog 18 #[papV (a, b, f, o)] w fun e w' => e = .returned (.tuple #[papV (Pp.syncR (a, b, f, o)).1, .int .i64 (Pp.syncR (a, b, f, o)).2]) ∧ Below w.heap.size w w' := by
  have e1 := fun W => cat_run a b (by omega) W
  have a0 := (Blk.new w 34 [tx a, tx b, .int .i64 f, .bool o]).alloc (.cells #[tx [], tx [], .int .i64 0, .bool false] 34)
  have a1 := Blk.new (w.alloc (.cells #[tx a, tx b, .int .i64 f, .bool o] 34)) 34 [tx [], tx [], .int .i64 0, .bool false]
  rw [World.size_alloc] at a1
  have c0 := a0.cell 0 rfl
  have f0 := a0.free 0
  have d0 := a1.cell 0 rfl
  have k0 := a1.free 0
  have c1 := a0.cell 1 rfl
  have f1 := a0.free 1
  have d1 := a1.cell 1 rfl
  have k1 := a1.free 1
  have c2 := a0.cell 2 rfl
  have f2 := a0.free 2
  have d2 := a1.cell 2 rfl
  have k2 := a1.free 2
  have c3 := a0.cell 3 rfl
  have f3 := a0.free 3
  have d3 := a1.cell 3 rfl
  have k3 := a1.free 3
  clear a0 a1
  cases o with
  | true =>
    go_enter Tryd.func18, Tryd.ntmps18
    go_wp2
    have q := Blk.new (w.alloc (.cells #[tx a, tx b, .int .i64 f, .bool true] 34)) 34 [tx a, tx b, .int .i64 f, .bool true]
    rw [World.size_alloc] at q
    have q0 := q.cell 0 rfl
    have q1 := q.cell 1 rfl
    have q2 := q.cell 2 rfl
    have q3 := q.cell 3 rfl
    refine bodyPost_ret (v := .tuple #[papV (a, b, f, true), .int .i64 6]) ?_ rfl ⟨rfl, ?_⟩
    · simp [results, Tryd.results18, go_sem, q0, q1, q2, q3]
    · exact ((Below.refl _ _).alloc (Nat.le_refl _) _).alloc (by simp) _
  | false =>
    go_enter Tryd.func18, Tryd.ntmps18
    go_wp2
    have q := Blk.new (w.alloc (.cells #[tx (a ++ b), tx [], .int .i64 f, .bool false] 34)) 34 [tx (a ++ b), tx [], .int .i64 f, .bool false]
    rw [World.size_alloc] at q
    have q0 := q.cell 0 rfl
    have q1 := q.cell 1 rfl
    have q2 := q.cell 2 rfl
    have q3 := q.cell 3 rfl
    refine bodyPost_ret (v := .tuple #[papV (a ++ b, [], f, false), .int .i64 0]) ?_ rfl ⟨rfl, ?_⟩
    · simp [results, Tryd.results18, go_sem, q0, q1, q2, q3]
    · exact ((Below.refl _ _).alloc (Nat.le_refl _) _).alloc (by simp) _

set_option maxHeartbeats 2000000 in
theorem rarm_lo (a b : List UInt8) (f k : Int) (o : Bool) (hk : k < 0) (w : World) :
    Calls Tryd.prog 24 #[papV (a, b, f, o), .int .i64 k] w fun e w' => e = .returned (papV (Pp.armR (a, b, f, o) k)) ∧ Below w.heap.size w w' := by
  have E := Lib.hid (show Pp.armR (a, b, f, o) k = (a, b, -1, o) by simp [Pp.armR] <;> omega)
  have t1 : decide (k < 0) = true := decide_eq_true hk
  have a0 := (Blk.new w 34 [tx a, tx b, .int .i64 f, .bool o]).alloc (.cells #[tx [], tx [], .int .i64 0, .bool false] 34)
  have a1 := Blk.new (w.alloc (.cells #[tx a, tx b, .int .i64 f, .bool o] 34)) 34 [tx [], tx [], .int .i64 0, .bool false]
  rw [World.size_alloc] at a1
  have c0 := a0.cell 0 rfl
  have f0 := a0.free 0
  have d0 := a1.cell 0 rfl
  have k0 := a1.free 0
  have c1 := a0.cell 1 rfl
  have f1 := a0.free 1
  have d1 := a1.cell 1 rfl
  have k1 := a1.free 1
  have c2 := a0.cell 2 rfl
  have f2 := a0.free 2
  have d2 := a1.cell 2 rfl
  have k2 := a1.free 2
  have c3 := a0.cell 3 rfl
  have f3 := a0.free 3
  have d3 := a1.cell 3 rfl
  have k3 := a1.free 3
  clear a0 a1
  go_enter Tryd.func24, Tryd.ntmps24
  go_wp2
  have q := Blk.new (w.alloc (.cells #[tx a, tx b, .int .i64 (-1), .bool o] 34)) 34 [tx a, tx b, .int .i64 (-1), .bool o]
  rw [World.size_alloc] at q
  have q0 := q.cell 0 rfl
  have q1 := q.cell 1 rfl
  have q2 := q.cell 2 rfl
  have q3 := q.cell 3 rfl
  refine bodyPost_ret (v := papV (a, b, -1, o)) ?_ rfl ⟨by rw [E.out], ?_⟩
  · simp [results, Tryd.results24, go_sem, q0, q1, q2, q3]
  · exact ((Below.refl _ _).alloc (Nat.le_refl _) _).alloc (by simp) _

set_option maxHeartbeats 2000000 in
theorem rarm_hi (a b : List UInt8) (f k : Int) (o : Bool) (hk : ¬ k < 0) (w : World) :
    Calls Tryd.prog 24 #[papV (a, b, f, o), .int .i64 k] w fun e w' => e = .returned (papV (Pp.armR (a, b, f, o) k)) ∧ Below w.heap.size w w' := by
  have E := Lib.hid (show Pp.armR (a, b, f, o) k = (a, b, k, o) by simp [Pp.armR] <;> omega)
  have t1 : decide (k < 0) = false := decide_eq_false hk
  have a0 := (Blk.new w 34 [tx a, tx b, .int .i64 f, .bool o]).alloc (.cells #[tx [], tx [], .int .i64 0, .bool false] 34)
  have a1 := Blk.new (w.alloc (.cells #[tx a, tx b, .int .i64 f, .bool o] 34)) 34 [tx [], tx [], .int .i64 0, .bool false]
  rw [World.size_alloc] at a1
  have c0 := a0.cell 0 rfl
  have f0 := a0.free 0
  have d0 := a1.cell 0 rfl
  have k0 := a1.free 0
  have c1 := a0.cell 1 rfl
  have f1 := a0.free 1
  have d1 := a1.cell 1 rfl
  have k1 := a1.free 1
  have c2 := a0.cell 2 rfl
  have f2 := a0.free 2
  have d2 := a1.cell 2 rfl
  have k2 := a1.free 2
  have c3 := a0.cell 3 rfl
  have f3 := a0.free 3
  have d3 := a1.cell 3 rfl
  have k3 := a1.free 3
  clear a0 a1
  go_enter Tryd.func24, Tryd.ntmps24
  go_wp2
  have q := Blk.new (w.alloc (.cells #[tx a, tx b, .int .i64 (k), .bool o] 34)) 34 [tx a, tx b, .int .i64 (k), .bool o]
  rw [World.size_alloc] at q
  have q0 := q.cell 0 rfl
  have q1 := q.cell 1 rfl
  have q2 := q.cell 2 rfl
  have q3 := q.cell 3 rfl
  refine bodyPost_ret (v := papV (a, b, k, o)) ?_ rfl ⟨by rw [E.out], ?_⟩
  · simp [results, Tryd.results24, go_sem, q0, q1, q2, q3]
  · exact ((Below.refl _ _).alloc (Nat.le_refl _) _).alloc (by simp) _

theorem parm (a b : List UInt8) (f k : Int) (o : Bool) (w : World) :
    Calls Tryd.prog 23 #[papV (a, b, f, o), .int .i64 k] w fun e w' => e = .returned (papV (Pp.armR (a, b, f, o) k)) ∧ Below w.heap.size w w' := by
  by_cases hk : k < -1
  · exact parm_lo a b f k o hk w
  · exact parm_hi a b f k o hk w
theorem rarm (a b : List UInt8) (f k : Int) (o : Bool) (w : World) :
    Calls Tryd.prog 24 #[papV (a, b, f, o), .int .i64 k] w fun e w' => e = .returned (papV (Pp.armR (a, b, f, o) k)) ∧ Below w.heap.size w w' := by
  by_cases hk : k < 0
  · exact rarm_lo a b f k o hk w
  · exact rarm_hi a b f k o hk w
theorem rd_take {s t s' : List UInt8} {rs : List (List UInt8)} {n : Nat} (hR : Pp.Rd s rs t) (hn : (Pp.frs rs).length = n) (hs' : Pp.frs rs = s') : s.take n = s' := by rw [← hn, ← hs', hR.eq, List.take_left]
theorem rread_eq {s t : List UInt8} {rs : List (List UInt8)} {k : Nat} (hR : Pp.Rd s rs t) (hk : (Pp.frs rs).length = k) (hs : s.length ≤ 4398046511104) (w : World) :
    Calls Tryd.prog 13 #[tx s] w fun e w' => ∃ v, e = .returned (.tuple #[v, .int .i64 (k : Int)]) ∧ TxAt w' v rs ∧ Below w.heap.size w w' := by subst hk; exact rread s t rs hs hR w
set_option maxHeartbeats 2000000 in
theorem rrecords {a b t : List UInt8} {rs : List (List UInt8)} (f : Int) (o : Bool) (hR : Pp.Rd (a ++ b) rs t) (hl : a.length + b.length ≤ 4398046511104) (w : World) :
    Calls Tryd.prog 20 #[papV (a, b, f, o)] w fun e w' => ∃ v, e = .returned v ∧ TxAt w' v rs ∧ Below w.heap.size w w' := by
  have e1 := fun W => cat_run a b (by omega) W
  have HR := Lib.hid (rread_eq hR rfl (by rw [List.length_append]; omega))
  clear hR
  have a0 := Blk.new w 34 [tx a, tx b, .int .i64 f, .bool o]
  have c0 := a0.cell 0 rfl
  have c1 := a0.cell 1 rfl
  have c2 := a0.cell 2 rfl
  have c3 := a0.cell 3 rfl
  have G0 := Lib.hid (show Below w.heap.size w (w.alloc (.cells #[tx a, tx b, .int .i64 f, .bool o] 34)) from (Below.refl _ _).alloc (Nat.le_refl _) _)
  clear a0
  go_enter Tryd.func20, Tryd.ntmps20
  go_wp2_with fail
  refine (HR.out _).mono ?_
  rintro e w1 ⟨v, rfl, hv, g1⟩
  have HV := Lib.hid hv
  obtain ⟨m1, m2, rfl⟩ := hv.len
  clear hv
  go_wp2
  go_ret
  exact ⟨_, rfl, HV.out, G0.out.trans (g1.mono (by simp))⟩
set_option maxHeartbeats 4000000 in
theorem rcrash_lo {a b t : List UInt8} {rs : List (List UInt8)} (f : Int) (o : Bool) (k : Int) (hk : k < 0) (hR : Pp.Rd (a ++ b.take (Pp.keepN b.length k)) rs t) (hl : a.length + b.length ≤ 4398046511104) (w : World) :
    Calls Tryd.prog 22 #[papV (a, b, f, o), .int .i64 k] w fun e w' => e = .returned (papV (Pp.frs rs, [], -1, false)) ∧ Below w.heap.size w w' := by
  have hm : Pp.keepN b.length k = 0 := by simp [Pp.keepN, hk]
  have t5 : decide (k < 0) = true := decide_eq_true hk
  have t6 : decide ((b.length : Int) < 0) = false := decide_eq_false (by omega)
  rw [hm] at hR
  have hrl := Pp.rd_len hR
  obtain ⟨s, hs⟩ : ∃ s, a ++ b.take 0 = s := ⟨_, rfl⟩
  have hsl := congrArg List.length hs
  rw [List.length_append, List.length_take] at hsl
  have e1 : ∀ W, (Op.stringOp .add (⟨a.toArray⟩ : ByteArray) ((⟨b.toArray⟩ : ByteArray).extract 0 0)).run Tryd.prog W = .ok (tx s) W := fun W => by rw [ba_take, ← hs]; exact cat_run a (b.take 0) (by rw [List.length_take]; omega) W
  rw [hs] at hR
  obtain rfl : a = s := by rw [← hs]; simp
  clear e1
  obtain ⟨n, hn⟩ : ∃ n, (Pp.frs rs).length = n := ⟨_, rfl⟩
  obtain ⟨s', hs'⟩ : ∃ s', Pp.frs rs = s' := ⟨_, rfl⟩
  have hns : n ≤ a.length := by rw [← hn, congrArg List.length hR.eq, List.length_append]; omega
  have HT := Lib.hid (show a.take n = s' from rd_take hR hn hs')
  have HR := Lib.hid (rread_eq hR hn (by omega))
  have E := Lib.hid hs'
  have t3 : (0 : Int) ≤ (n : Int) := by omega
  have t4 : (n : Int) ≤ (a.length : Int) := by omega
  have t7 : (0 : Int) ≤ (b.length : Int) := by omega
  clear hR hs hs' hn hm hsl hrl
  have A1 := Lib.hid (by have h := Blk.new (w.alloc (.cells #[tx a, tx b, .int .i64 f, .bool o] 34)) 34 [tx [], tx [], .int .i64 0, .bool false]; rwa [World.size_alloc] at h : Blk ((w.alloc (.cells #[tx a, tx b, .int .i64 f, .bool o] 34)).alloc (.cells #[tx [], tx [], .int .i64 0, .bool false] 34)) (w.heap.size + 1) 34 [tx [], tx [], .int .i64 0, .bool false])
  have G0 := Lib.hid (show Below w.heap.size w ((w.alloc (.cells #[tx a, tx b, .int .i64 f, .bool o] 34)).alloc (.cells #[tx [], tx [], .int .i64 0, .bool false] 34)) from ((Below.refl _ _).alloc (Nat.le_refl _) _).alloc (by simp) _)
  have a0 := (Blk.new w 34 [tx a, tx b, .int .i64 f, .bool o]).alloc (.cells #[tx [], tx [], .int .i64 0, .bool false] 34)
  have a1 := Blk.new (w.alloc (.cells #[tx a, tx b, .int .i64 f, .bool o] 34)) 34 [tx [], tx [], .int .i64 0, .bool false]
  rw [World.size_alloc] at a1
  have c0 := a0.cell 0 rfl
  have f0 := a0.free 0
  have d0 := a1.cell 0 rfl
  have k0 := a1.free 0
  have c1 := a0.cell 1 rfl
  have f1 := a0.free 1
  have d1 := a1.cell 1 rfl
  have k1 := a1.free 1
  have c2 := a0.cell 2 rfl
  have f2 := a0.free 2
  have d2 := a1.cell 2 rfl
  have k2 := a1.free 2
  have c3 := a0.cell 3 rfl
  have f3 := a0.free 3
  have d3 := a1.cell 3 rfl
  have k3 := a1.free 3
  clear a0 a1
  go_enter Tryd.func22, Tryd.ntmps22
  go_wp2_with fail
  go_quiet (fail)
  go_wp2_with fail
  refine (HR.out _).mono ?_
  rintro e w1 ⟨v, rfl, -, g1⟩
  have A2 := Lib.hid ((A1.out.drewN nq).kept g1)
  have G2 := Lib.hid ((below_drewN G0.out nq).trans (g1.mono (by simp; omega)))
  clear g1 c0 c1 c2 c3 f0 f1 f2 f3 d0 d1 d2 d3 k0 k1 k2 k3
  have d0 := A2.out.cell 0 rfl
  have df0 := A2.out.free 0
  have d1 := A2.out.cell 1 rfl
  have df1 := A2.out.free 1
  have d2 := A2.out.cell 2 rfl
  have df2 := A2.out.free 2
  have d3 := A2.out.cell 3 rfl
  have df3 := A2.out.free 3
  go_wp2
  simp only [ba_take, HT.out]
  have q := (((A2.out.set 0 (tx s') rfl).set 1 (tx []) rfl).set 2 (.int .i64 (-1)) rfl).set 3 (.bool false) rfl
  have q0 := q.cell 0 rfl
  have q1 := q.cell 1 rfl
  have q2 := q.cell 2 rfl
  have q3 := q.cell 3 rfl
  refine bodyPost_ret (v := papV (s', [], -1, false)) ?_ rfl ⟨by rw [E.out], ?_⟩
  · simp [results, Tryd.results22, go_sem, q0, q1, q2, q3]
  · exact (((G2.out.setCell (p := ⟨_, 0, none⟩) (by simp) _).setCell (p := ⟨_, 1, none⟩) (by simp) _).setCell (p := ⟨_, 2, none⟩) (by simp) _).setCell (p := ⟨_, 3, none⟩) (by simp) _
set_option maxHeartbeats 4000000 in
theorem rcrash_hi {a b t : List UInt8} {rs : List (List UInt8)} (f : Int) (o : Bool) (k : Int) (hk0 : ¬ k < 0) (hk : (b.length : Int) < k) (hR : Pp.Rd (a ++ b.take (Pp.keepN b.length k)) rs t) (hl : a.length + b.length ≤ 4398046511104) (w : World) :
    Calls Tryd.prog 22 #[papV (a, b, f, o), .int .i64 k] w fun e w' => e = .returned (papV (Pp.frs rs, [], -1, false)) ∧ Below w.heap.size w w' := by
  have hm : Pp.keepN b.length k = b.length := by simp [Pp.keepN, hk0, hk]
  have t5 : decide (k < 0) = false := decide_eq_false hk0
  have t6 : decide ((b.length : Int) < k) = true := decide_eq_true hk
  rw [hm] at hR
  have hrl := Pp.rd_len hR
  obtain ⟨s, hs⟩ : ∃ s, a ++ b.take b.length = s := ⟨_, rfl⟩
  have hsl := congrArg List.length hs
  rw [List.length_append, List.length_take] at hsl
  have e1 : ∀ W, (Op.stringOp .add (⟨a.toArray⟩ : ByteArray) ((⟨b.toArray⟩ : ByteArray).extract 0 b.length)).run Tryd.prog W = .ok (tx s) W := fun W => by rw [ba_take, ← hs]; exact cat_run a (b.take b.length) (by rw [List.length_take]; omega) W
  rw [hs] at hR
  obtain ⟨n, hn⟩ : ∃ n, (Pp.frs rs).length = n := ⟨_, rfl⟩
  obtain ⟨s', hs'⟩ : ∃ s', Pp.frs rs = s' := ⟨_, rfl⟩
  have hns : n ≤ s.length := by rw [← hn, congrArg List.length hR.eq, List.length_append]; omega
  have HT := Lib.hid (show s.take n = s' from rd_take hR hn hs')
  have HR := Lib.hid (rread_eq hR hn (by omega))
  have E := Lib.hid hs'
  have t3 : (0 : Int) ≤ (n : Int) := by omega
  have t4 : (n : Int) ≤ (s.length : Int) := by omega
  have t7 : (0 : Int) ≤ (b.length : Int) := by omega
  clear hR hs hs' hn hm hsl hrl
  have A1 := Lib.hid (by have h := Blk.new (w.alloc (.cells #[tx a, tx b, .int .i64 f, .bool o] 34)) 34 [tx [], tx [], .int .i64 0, .bool false]; rwa [World.size_alloc] at h : Blk ((w.alloc (.cells #[tx a, tx b, .int .i64 f, .bool o] 34)).alloc (.cells #[tx [], tx [], .int .i64 0, .bool false] 34)) (w.heap.size + 1) 34 [tx [], tx [], .int .i64 0, .bool false])
  have G0 := Lib.hid (show Below w.heap.size w ((w.alloc (.cells #[tx a, tx b, .int .i64 f, .bool o] 34)).alloc (.cells #[tx [], tx [], .int .i64 0, .bool false] 34)) from ((Below.refl _ _).alloc (Nat.le_refl _) _).alloc (by simp) _)
  have a0 := (Blk.new w 34 [tx a, tx b, .int .i64 f, .bool o]).alloc (.cells #[tx [], tx [], .int .i64 0, .bool false] 34)
  have a1 := Blk.new (w.alloc (.cells #[tx a, tx b, .int .i64 f, .bool o] 34)) 34 [tx [], tx [], .int .i64 0, .bool false]
  rw [World.size_alloc] at a1
  have c0 := a0.cell 0 rfl
  have f0 := a0.free 0
  have d0 := a1.cell 0 rfl
  have k0 := a1.free 0
  have c1 := a0.cell 1 rfl
  have f1 := a0.free 1
  have d1 := a1.cell 1 rfl
  have k1 := a1.free 1
  have c2 := a0.cell 2 rfl
  have f2 := a0.free 2
  have d2 := a1.cell 2 rfl
  have k2 := a1.free 2
  have c3 := a0.cell 3 rfl
  have f3 := a0.free 3
  have d3 := a1.cell 3 rfl
  have k3 := a1.free 3
  clear a0 a1
  go_enter Tryd.func22, Tryd.ntmps22
  go_wp2_with fail
  go_quiet (fail)
  go_wp2_with fail
  refine (HR.out _).mono ?_
  rintro e w1 ⟨v, rfl, -, g1⟩
  have A2 := Lib.hid ((A1.out.drewN nq).kept g1)
  have G2 := Lib.hid ((below_drewN G0.out nq).trans (g1.mono (by simp; omega)))
  clear g1 c0 c1 c2 c3 f0 f1 f2 f3 d0 d1 d2 d3 k0 k1 k2 k3
  have d0 := A2.out.cell 0 rfl
  have df0 := A2.out.free 0
  have d1 := A2.out.cell 1 rfl
  have df1 := A2.out.free 1
  have d2 := A2.out.cell 2 rfl
  have df2 := A2.out.free 2
  have d3 := A2.out.cell 3 rfl
  have df3 := A2.out.free 3
  go_wp2
  simp only [ba_take, HT.out]
  have q := (((A2.out.set 0 (tx s') rfl).set 1 (tx []) rfl).set 2 (.int .i64 (-1)) rfl).set 3 (.bool false) rfl
  have q0 := q.cell 0 rfl
  have q1 := q.cell 1 rfl
  have q2 := q.cell 2 rfl
  have q3 := q.cell 3 rfl
  refine bodyPost_ret (v := papV (s', [], -1, false)) ?_ rfl ⟨by rw [E.out], ?_⟩
  · simp [results, Tryd.results22, go_sem, q0, q1, q2, q3]
  · exact (((G2.out.setCell (p := ⟨_, 0, none⟩) (by simp) _).setCell (p := ⟨_, 1, none⟩) (by simp) _).setCell (p := ⟨_, 2, none⟩) (by simp) _).setCell (p := ⟨_, 3, none⟩) (by simp) _
set_option maxHeartbeats 4000000 in
theorem rcrash_mid {a b t : List UInt8} {rs : List (List UInt8)} (f : Int) (o : Bool) (n0 : Nat) (hk : n0 ≤ b.length) (hR : Pp.Rd (a ++ b.take (Pp.keepN b.length (n0 : Int))) rs t) (hl : a.length + b.length ≤ 4398046511104) (w : World) :
    Calls Tryd.prog 22 #[papV (a, b, f, o), .int .i64 (n0 : Int)] w fun e w' => e = .returned (papV (Pp.frs rs, [], -1, false)) ∧ Below w.heap.size w w' := by
  have hm : Pp.keepN b.length (n0 : Int) = n0 := by unfold Pp.keepN; rw [if_neg (by omega), if_neg (by omega)]; omega
  have t5 : decide ((n0 : Int) < 0) = false := decide_eq_false (by omega)
  have t6 : decide (b.length < n0) = false := decide_eq_false (by omega)
  rw [hm] at hR
  have hrl := Pp.rd_len hR
  obtain ⟨s, hs⟩ : ∃ s, a ++ b.take n0 = s := ⟨_, rfl⟩
  have hsl := congrArg List.length hs
  rw [List.length_append, List.length_take] at hsl
  have e1 : ∀ W, (Op.stringOp .add (⟨a.toArray⟩ : ByteArray) ((⟨b.toArray⟩ : ByteArray).extract 0 n0)).run Tryd.prog W = .ok (tx s) W := fun W => by rw [ba_take, ← hs]; exact cat_run a (b.take n0) (by rw [List.length_take]; omega) W
  rw [hs] at hR
  obtain ⟨n, hn⟩ : ∃ n, (Pp.frs rs).length = n := ⟨_, rfl⟩
  obtain ⟨s', hs'⟩ : ∃ s', Pp.frs rs = s' := ⟨_, rfl⟩
  have hns : n ≤ s.length := by rw [← hn, congrArg List.length hR.eq, List.length_append]; omega
  have HT := Lib.hid (show s.take n = s' from rd_take hR hn hs')
  have HR := Lib.hid (rread_eq hR hn (by omega))
  have E := Lib.hid hs'
  have t3 : (0 : Int) ≤ (n : Int) := by omega
  have t4 : (n : Int) ≤ (s.length : Int) := by omega
  have t7 : (0 : Int) ≤ (b.length : Int) := by omega
  have t8 : (n0 : Int) ≤ (b.length : Int) := by omega
  clear hR hs hs' hn hm hsl hrl
  have A1 := Lib.hid (by have h := Blk.new (w.alloc (.cells #[tx a, tx b, .int .i64 f, .bool o] 34)) 34 [tx [], tx [], .int .i64 0, .bool false]; rwa [World.size_alloc] at h : Blk ((w.alloc (.cells #[tx a, tx b, .int .i64 f, .bool o] 34)).alloc (.cells #[tx [], tx [], .int .i64 0, .bool false] 34)) (w.heap.size + 1) 34 [tx [], tx [], .int .i64 0, .bool false])
  have G0 := Lib.hid (show Below w.heap.size w ((w.alloc (.cells #[tx a, tx b, .int .i64 f, .bool o] 34)).alloc (.cells #[tx [], tx [], .int .i64 0, .bool false] 34)) from ((Below.refl _ _).alloc (Nat.le_refl _) _).alloc (by simp) _)
  have a0 := (Blk.new w 34 [tx a, tx b, .int .i64 f, .bool o]).alloc (.cells #[tx [], tx [], .int .i64 0, .bool false] 34)
  have a1 := Blk.new (w.alloc (.cells #[tx a, tx b, .int .i64 f, .bool o] 34)) 34 [tx [], tx [], .int .i64 0, .bool false]
  rw [World.size_alloc] at a1
  have c0 := a0.cell 0 rfl
  have f0 := a0.free 0
  have d0 := a1.cell 0 rfl
  have k0 := a1.free 0
  have c1 := a0.cell 1 rfl
  have f1 := a0.free 1
  have d1 := a1.cell 1 rfl
  have k1 := a1.free 1
  have c2 := a0.cell 2 rfl
  have f2 := a0.free 2
  have d2 := a1.cell 2 rfl
  have k2 := a1.free 2
  have c3 := a0.cell 3 rfl
  have f3 := a0.free 3
  have d3 := a1.cell 3 rfl
  have k3 := a1.free 3
  clear a0 a1
  go_enter Tryd.func22, Tryd.ntmps22
  go_wp2_with fail
  go_quiet (fail)
  go_wp2_with fail
  refine (HR.out _).mono ?_
  rintro e w1 ⟨v, rfl, -, g1⟩
  have A2 := Lib.hid ((A1.out.drewN nq).kept g1)
  have G2 := Lib.hid ((below_drewN G0.out nq).trans (g1.mono (by simp; omega)))
  clear g1 c0 c1 c2 c3 f0 f1 f2 f3 d0 d1 d2 d3 k0 k1 k2 k3
  have d0 := A2.out.cell 0 rfl
  have df0 := A2.out.free 0
  have d1 := A2.out.cell 1 rfl
  have df1 := A2.out.free 1
  have d2 := A2.out.cell 2 rfl
  have df2 := A2.out.free 2
  have d3 := A2.out.cell 3 rfl
  have df3 := A2.out.free 3
  go_wp2
  simp only [ba_take, HT.out]
  have q := (((A2.out.set 0 (tx s') rfl).set 1 (tx []) rfl).set 2 (.int .i64 (-1)) rfl).set 3 (.bool false) rfl
  have q0 := q.cell 0 rfl
  have q1 := q.cell 1 rfl
  have q2 := q.cell 2 rfl
  have q3 := q.cell 3 rfl
  refine bodyPost_ret (v := papV (s', [], -1, false)) ?_ rfl ⟨by rw [E.out], ?_⟩
  · simp [results, Tryd.results22, go_sem, q0, q1, q2, q3]
  · exact (((G2.out.setCell (p := ⟨_, 0, none⟩) (by simp) _).setCell (p := ⟨_, 1, none⟩) (by simp) _).setCell (p := ⟨_, 2, none⟩) (by simp) _).setCell (p := ⟨_, 3, none⟩) (by simp) _
theorem rcrash {a b t : List UInt8} {rs : List (List UInt8)} (f : Int) (o : Bool) (k : Int) (hR : Pp.Rd (a ++ b.take (Pp.keepN b.length k)) rs t) (hl : a.length + b.length ≤ 4398046511104) (w : World) :
    Calls Tryd.prog 22 #[papV (a, b, f, o), .int .i64 k] w fun e w' => e = .returned (papV (Pp.frs rs, [], -1, false)) ∧ Below w.heap.size w w' := by
  by_cases h0 : k < 0
  · exact rcrash_lo f o k h0 hR hl w
  · by_cases h1 : (b.length : Int) < k
    · exact rcrash_hi f o k h0 h1 hR hl w
    · obtain ⟨n, rfl⟩ := Int.eq_ofNat_of_zero_le (show 0 ≤ k by omega)
      exact rcrash_mid f o n (by omega) hR hl w
end Go.Proofs.YtkkiedmcpibnaaaDoor
