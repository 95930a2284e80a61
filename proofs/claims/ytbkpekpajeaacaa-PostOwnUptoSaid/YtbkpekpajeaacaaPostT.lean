/- Package post as it landed: behind, take. -/
import Derived.Test.YtbkpekpajeaacaaPostB
import Derived.Test.YtbkpekpajeaacaaTkA
import Derived.Tactics
import Derived.Tactics2
import Derived.Defers
import Derived.Recover
import Derived.Laws.Pointers
namespace Go.Proofs.Ytbkpekpajeaacaa
open Go.RowKit
set_option maxRecDepth 100000
attribute [local go_sem] ByteArray.mk_append_mk
attribute [local go_sem] ba_tail
abbrev pk3 : PanicEntry := { v := .iface 115 (.agg #[.int .i64 3]), recovered := false }

set_option maxHeartbeats 1000000 in
theorem pbehind_yes (c : UInt8) (s : List UInt8) (w : World) : Calls Try.prog 76 #[.int .u8 c.toNat, tx (c :: s)] w fun e w' => e = .returned (tx s) ∧ w' = w := by
  have HK := Lib.hid (pkind_eq (s := c :: s) (c := c.toNat) rfl w)
  have t1 : ((c.toNat : Int) != (c.toNat : Int)) = false := by simp
  go_enter Try.func76, Try.ntmps76
  go_wp2_with fail
  refine HK.out.mono ?_
  rintro e w1 ⟨rfl, rfl⟩
  go_wp2
  go_ret
  exact ⟨rfl, rfl⟩
set_option maxHeartbeats 1000000 in
theorem pbehind_no (c : UInt8) (s : List UInt8) (h : Po.kind s ≠ c) (w : World) : Calls Try.prog 76 #[.int .u8 c.toNat, tx s] w fun e w' => e = .panicked [pk3] ∧ w' = w := by
  have HK := Lib.hid (pkind s w)
  have t1 : (((Po.kind s).toNat : Int) != (c.toNat : Int)) = true := by
    rw [bne_iff_ne]; intro h2; exact h (UInt8.toNat_inj.1 (by omega))
  clear h
  go_enter Try.func76, Try.ntmps76
  go_wp2_with fail
  refine HK.out.mono ?_
  rintro e w1 ⟨rfl, rfl⟩
  go_wp2
  exact ⟨rfl, rfl, rfl⟩

theorem asY (W : World) : (Instr.typeAssert (.iface 115 (.agg #[.int .i64 3])) 20 115 true).run Try.prog W = .ok (.tuple #[.agg #[.int .i64 3], .bool true]) W := by kernel_rfl
theorem asN (W : World) : (Instr.typeAssert .nilIface 20 115 true).run Try.prog W = .ok (.tuple #[.agg #[.int .i64 0], .bool false]) W := by kernel_rfl

set_option maxHeartbeats 4000000 in
theorem catchS_panicking (p : Addr) (u : Value) (w : World) (hc : (w.alloc (.cells #[.int .i64 3] 115)).cell? p = some u) (hz : (w.alloc (.cells #[.int .i64 3] 115)).frozen? p = false) :
    CallsD Try.prog 87 #[.pointer (some p)] (.panicking [pk3]) w fun e u' w' =>
      e = .returned (.tuple #[]) ∧ u' = .panicking [{ v := pk3.v, recovered := true }] ∧ w' = (w.alloc (.cells #[.int .i64 3] 115)).setCell p (.int .i64 3) := by
  have h1 := asY
  refine callsD_of_wpS Try.func87 rfl fun c₀ cs hu => ?_
  apply wpS_seq
  apply wpS_region
  simp [wpOpsS, go_sem, recoverD, hu, Try.ntmps87, Exit.thenS, h1]
  apply wpS_seq
  apply wpS_region
  simp [wpOpsS, go_sem, Exit.thenS, Array.replicate]
  refine wpS_cond (t := true) (by simp [Act.eval]) ?_
  simp only [if_true]
  apply wpS_region
  simp [wpOpsS, go_sem, hc, hz, bodyPostS, results, Try.results87]

set_option maxHeartbeats 4000000 in
theorem catchS_idle (p : Addr) (w : World) :
    CallsD Try.prog 87 #[.pointer (some p)] .returning w fun e u' w' => e = .returned (.tuple #[]) ∧ u' = .returning ∧ w' = w.alloc (.cells #[.int .i64 0] 115) := by
  have h1 := asN
  refine callsD_of_wpS Try.func87 rfl fun c₀ cs hu => ?_
  apply wpS_seq
  apply wpS_region
  simp [wpOpsS, go_sem, recoverD, hu, Try.ntmps87, Exit.thenS, h1]
  apply wpS_seq
  apply wpS_region
  simp [wpOpsS, go_sem, Exit.thenS, Array.replicate]
  refine wpS_cond (t := false) (by simp [Act.eval]) ?_
  simp only [Bool.false_eq_true, if_false]
  refine wpS_of_wp (wp_skip ?_)
  cases c₀
  simp_all [bodyPostS, results, Try.results87]

set_option maxHeartbeats 1000000 in
theorem ptxtake1 (s : List UInt8) (w : World) : Calls Try.prog 58 #[tx s] w fun e w' => e = .returned (.tuple #[tx s, .int .i64 0]) ∧ w' = w := by
  go_enter Try.func58, Try.ntmps58
  go_wp2
  go_ret2
  exact ⟨rfl, rfl⟩

set_option maxHeartbeats 4000000 in
theorem ptakeS_yes (c : UInt8) (s : List UInt8) (w : World) : Calls Try.prog 57 #[.int .u8 c.toNat, tx (c :: s), .func (.func 58) #[] #[]] w fun e w' => e = .returned (.tuple #[tx s, .int .i64 0]) ∧ Below w.heap.size w w' := by
  have hmf : ∀ (fn : Fn) (first cap : Array Value) (w : World), (Instr.makeFunc fn first cap).run Try.prog w = .ok (.func fn first cap) w := fun _ _ _ _ => rfl
  have HB := Lib.hid (fun W => pbehind_yes c s W)
  have HD := Lib.hid (fun W => ptxtake1 s W)
  have A0 := Lib.hid (Blk.new w 34 [.int .i64 0])
  have G0 := Lib.hid (show Below w.heap.size w (w.alloc (.cells #[.int .i64 0] 34)) from (Below.refl _ _).alloc (Nat.le_refl _) _)
  have c0 := A0.out.cell 0 rfl
  have f0 := A0.out.free 0
  go_enter_defers Try.func57, Try.ntmps57
  go_wp2_with fail
  refine (HB.out _).mono ?_
  rintro e w1 ⟨rfl, rfl⟩
  go_wp2_with fail
  refine (HD.out _).mono ?_
  rintro e w1 ⟨rfl, rfl⟩
  go_wp2_with fail
  have A1 := Lib.hid (A0.out.alloc (.cells #[.int .i64 0] 115))
  have G1 := Lib.hid (grow_trans G0.out ((Below.refl _ _).alloc (Nat.le_refl _) (.cells #[.int .i64 0] 115)))
  refine leaves_cons (f := 87) (args := #[.pointer (some ⟨w.heap.size, 0, none⟩)]) (by simp) (by simp [go_sem]) ?_
  refine (catchS_idle _ _).mono ?_
  rintro e u' w'' ⟨rfl, rfl, rfl⟩
  have d0 := A1.out.cell 0 rfl
  simp only [Leaves, settle]
  exact ⟨.tuple #[tx s, .int .i64 0], by simp [results, Try.results57, go_sem, d0], rfl, G1.out⟩
set_option maxHeartbeats 4000000 in
theorem ptakeS_no (c : UInt8) (s : List UInt8) (h : Po.kind s ≠ c) (w : World) : Calls Try.prog 57 #[.int .u8 c.toNat, tx s, .func (.func 58) #[] #[]] w fun e w' => e = .returned (.tuple #[tx [], .int .i64 3]) ∧ Below w.heap.size w w' := by
  have hmf : ∀ (fn : Fn) (first cap : Array Value) (w : World), (Instr.makeFunc fn first cap).run Try.prog w = .ok (.func fn first cap) w := fun _ _ _ _ => rfl
  have HB := Lib.hid (fun W => pbehind_no c s h W)
  have A0 := Lib.hid (Blk.new w 34 [.int .i64 0])
  have G0 := Lib.hid (show Below w.heap.size w (w.alloc (.cells #[.int .i64 0] 34)) from (Below.refl _ _).alloc (Nat.le_refl _) _)
  have c0 := A0.out.cell 0 rfl
  have f0 := A0.out.free 0
  go_enter_defers Try.func57, Try.ntmps57
  go_wp2_with fail
  refine (HB.out _).mono ?_
  rintro e w1 ⟨rfl, rfl⟩
  go_wp2_with fail
  have A1 := Lib.hid (A0.out.alloc (.cells #[.int .i64 3] 115))
  have G1 := Lib.hid (grow_trans G0.out ((Below.refl _ _).alloc (Nat.le_refl _) (.cells #[.int .i64 3] 115)))
  have A2 := Lib.hid (A1.out.set 0 (.int .i64 3) rfl)
  have G2 := Lib.hid (G1.out.setCell (p := ⟨w.heap.size, 0, none⟩) (Nat.le_refl _) (.int .i64 3))
  refine leaves_cons (f := 87) (args := #[.pointer (some ⟨w.heap.size, 0, none⟩)]) (by simp) (by simp [go_sem]) ?_
  refine (catchS_panicking _ (.int .i64 0) _ (A1.out.cell 0 rfl) (A1.out.free 0)).mono ?_
  rintro e u' w'' ⟨rfl, rfl, rfl⟩
  simp only [settle]
  exact ⟨.tuple #[tx [], .int .i64 3], by simp [results, Try.results57, go_sem], rfl, G2.out⟩
end Go.Proofs.Ytbkpekpajeaacaa
