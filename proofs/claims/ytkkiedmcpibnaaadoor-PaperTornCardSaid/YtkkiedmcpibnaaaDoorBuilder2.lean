/- The contracts of the strings.Builder: Grow (ahead of all writing), WriteByte. -/
import Derived.Test.YtkkiedmcpibnaaaDoorBuilder
import Derived.Shelf.Strings.Builder2
namespace Go.Proofs.YtkkiedmcpibnaaaDoor
open Go.RowKit Go.Shelf

def gr_ren : Go.Shelf.Ren := ⟨fun | 241 => 59 | 277 => 62 | n => n, fun | 70 => 84 | 9 => 9 | 0 => 0 | 72 => 86 | 37 => 67 | 127 => 99 | 3 => 3 | 5 => 5 | n => n, fun | n => n⟩
theorem gr_lays : Go.Proofs.Lays.n241 Tryd.prog gr_ren := {
  mixed := by kernel_rfl
  f241 := Tryd.func59.trans (congrArg some (by kernel_rfl))
  f277 := Tryd.func62.trans (congrArg some (by kernel_rfl))
  t0 := Tryd.underlying0, a0 := Tryd.isAgg0, z0 := Tryd.sizeOf0, v0 := Tryd.zeroValue0
  t3 := Tryd.underlying3, a3 := Tryd.isAgg3, z3 := Tryd.sizeOf3, v3 := Tryd.zeroValue3
  t37 := Tryd.underlying67, a37 := Tryd.isAgg67, z37 := Tryd.sizeOf67, v37 := Tryd.zeroValue67
  t70 := Tryd.underlying84, a70 := Tryd.isAgg84, z70 := Tryd.sizeOf84, v70 := Tryd.zeroValue84
  t72 := Tryd.underlying86, a72 := Tryd.isAgg86, z72 := Tryd.sizeOf86, v72 := Tryd.zeroValue86 }
theorem gr_extra : Builder.Extra Tryd.prog gr_ren := {
  sizeBuilder := by kernel_rfl
  liesBuilder := by kernel_rfl
  t5 := Tryd.underlying5, a5 := Tryd.isAgg5, z5 := Tryd.sizeOf5, v5 := Tryd.zeroValue5
  infoByte := by kernel_rfl
  cellsByte := by kernel_rfl
  sizeByte := by kernel_rfl
  neB5 := by decide }
theorem grow_any (B b n : Nat) (w : World) (hB : B ≤ b) (hbk : w.heap[b]? = some (.cells #[.pointer (some ⟨b, 0, none⟩), .slice none 0 0] 86 (0, 0))) (hBw : B ≤ w.heap.size) (hn : n ≤ 281474976710656) :
    Calls Tryd.prog 59 #[.pointer (some ⟨b, 0, none⟩), .int .i64 n] w fun e w' => e = .returned (.tuple #[]) ∧ Lib.BuilderAt 86 5 B b (.pointer (some ⟨b, 0, none⟩)) [] w' ∧ Below B w w' :=
  Any.Builder_grow_fresh gr_lays gr_extra B b n w hB hbk hBw hn

set_option maxHeartbeats 1000000 in
set_option maxRecDepth 100000 in
theorem builderGrow_any (B b n : Nat) (w : World) (hB : B ≤ b) (hbk : w.heap[b]? = some (.cells #[.pointer none, .slice none 0 0] 86 (0, 0))) (hBw : B ≤ w.heap.size) (hn : n ≤ 281474976710656) :
    Calls Tryd.prog 50 #[.pointer (some ⟨b, 0, none⟩), .int .i64 n] w fun e w' => e = .returned (.tuple #[]) ∧ Lib.IsBuilder 86 5 B b [] w' ∧ Below B w w' := by
  have hat : Lib.BuilderAt 86 5 B b (.pointer none) [] w := ⟨hB, .slice none 0 0, hbk, World.ownsRow_nil _ _ _ _, by simp [Value.ownBlock]⟩
  have hlt : b < w.heap.size := (Array.getElem?_eq_some_iff.1 hbk).1
  have hbk1 : (w.setCell ⟨b, 0, none⟩ (.pointer (some ⟨b, 0, none⟩))).heap[b]? = some (.cells #[.pointer (some ⟨b, 0, none⟩), .slice none 0 0] 86 (0, 0)) := by
    simp [World.setCell, Array.getElem?_modify, hbk]
  have hu : Lib.IsBuilder 86 5 B b [] (w.setCell ⟨b, 0, none⟩ (.pointer (some ⟨b, 0, none⟩))) := .inr (hat.used _)
  have hcc := copyCheck_fresh b w hat.cell0 hat.shape hat.frozen0
  have hbl : Below B w (w.setCell ⟨b, 0, none⟩ (.pointer (some ⟨b, 0, none⟩))) := (Below.refl _ _).setCell (p := ⟨b, 0, none⟩) hB _
  obtain ⟨w1, hw1⟩ : ∃ x, w.setCell ⟨b, 0, none⟩ (.pointer (some ⟨b, 0, none⟩)) = x := ⟨_, rfl⟩
  rw [hw1] at hbk1 hu hcc hbl
  have c1 : w1.cell? ⟨b, 1, none⟩ = some (.slice none 0 0) := by rw [Lib.cell_of_heap hbk1]; rfl
  have HC := Lib.hid hcc
  have HU := Lib.hid hu
  have HK := Lib.hid hbk1
  have HB := Lib.hid hbl
  clear hat hbk hcc hu hbk1 hbl hw1
  have t1 : decide ((n : Int) < 0) = false := decide_eq_false (by omega)
  have hw0 : IntKind.i64.wrap 0 = 0 := by decide
  by_cases h0 : 0 < n
  · have t2 : decide ((0 : Int) < (n : Int)) = true := decide_eq_true (by omega)
    go_enter Tryd.func50, Tryd.ntmps50
    go_wp2_with fail
    refine HC.out.mono ?_
    rintro e w2 ⟨rfl, rfl⟩
    go_wp2_with fail
    go_quiet (fail)
    go_wp2_with fail
    refine (grow_any B b n _ hB (show (w1.drewN nq).heap[b]? = _ from HK.out) (Nat.le_trans hBw HB.out.size) hn).mono ?_
    rintro e w3 ⟨rfl, h3, b3⟩
    go_wp2
    go_end0
    exact ⟨rfl, .inr h3, (below_drewN HB.out nq).trans b3⟩
  · obtain rfl : n = 0 := by omega
    go_enter Tryd.func50, Tryd.ntmps50
    go_wp2_with fail
    refine HC.out.mono ?_
    rintro e w2 ⟨rfl, rfl⟩
    go_wp2_with fail
    go_quiet (fail)
    go_wp2
    go_end0
    exact ⟨rfl, HU.out, below_drewN HB.out _⟩

set_option maxHeartbeats 2000000 in
set_option maxRecDepth 100000 in
theorem writeByte_any (B b : Nat) (bs : List Value) (y : UInt8) (w : World) (h : Lib.IsBuilder 86 5 B b bs w) (hl : bs.length + 1 ≤ 140737488355328) (hB : B ≤ w.heap.size) :
    Calls Tryd.prog 52 #[.pointer (some ⟨b, 0, none⟩), bv y] w fun e w' => e = .returned .nilIface ∧ Lib.IsBuilder 86 5 B b (bs ++ [bv y]) w' ∧ Below B w w' := by
  obtain ⟨i0, hi, hz0, hz1, hz2⟩ := info_parts builder_byte
  unfold bv
  go_enter Tryd.func52, Tryd.ntmps52
  go_wp2_with fail
  refine (copyCheck_any B b bs w h).mono ?_
  rintro e w1 ⟨rfl, ⟨hb, v, hbk, hown, hne⟩, hbel⟩
  have hs1 := hbel.size
  have hlt : b < w1.heap.size := (Array.getElem?_eq_some_iff.1 hbk).1
  have c0 : w1.cell? ⟨b, 0, none⟩ = some (.pointer (some ⟨b, 0, none⟩)) := by rw [Lib.cell_of_heap hbk]; rfl
  have c1 : w1.cell? ⟨b, 1, none⟩ = some v := by rw [Lib.cell_of_heap hbk]; rfl
  have HO := Lib.hid hown
  have HK := Lib.hid hbk
  have HN := Lib.hid hne
  clear hown hbk hne
  go_wp2_with (at_builtin; refine wpList_append_own _ rfl _ _ 67 rfl B 5 i0 (.int .u8 0) 1 1 Tryd.underlying67 hi hz0 hz1 hz2 rfl (by decide) _ _ _ rfl (HO.out.alloc _) ⟨w1.heap.size, 0, none⟩ 1 1 [.int .u8 (y.toNat : Int)] rfl rfl ?k1 ?k2 ?k3 ?k4 ?k5 ?_)
  case k1 => exact new_cell _ _ rfl _ _
  case k2 => intro u hu; simp at hu; subst hu; rfl
  case k3 => unfold maxLen; omega
  case k4 => omega
  case k5 => simp; omega
  intro v' w2 hown2 hg _
  have hbk2 : w2.heap[b]? = some (.cells #[.pointer (some ⟨b, 0, none⟩), v] 86 (0, 0)) := by
    rw [hg.block b (by simp; omega) (fun e => HN.out e.symm)]
    exact (Lib.alloc_old w1 _ b hlt).trans HK.out
  have d0 : w2.cell? ⟨b, 0, none⟩ = some (.pointer (some ⟨b, 0, none⟩)) := by rw [Lib.cell_of_heap hbk2]; rfl
  have d1 : w2.cell? ⟨b, 1, none⟩ = some v := by rw [Lib.cell_of_heap hbk2]; rfl
  have f1 : w2.frozen? ⟨b, 1, none⟩ = false := Lib.frozen_of_heap hbk2 1
  obtain ⟨a', n', cap', rfl⟩ : ∃ a' n' cap', v' = .slice a' n' cap' := by
    rcases hown2.2 with ⟨hv, _⟩ | ⟨_, _, _, hv, _⟩ <;> exact ⟨_, _, _, hv⟩
  have hput := Lib.BuilderAt.put (T := 86) (e := 5) hb hbk2 (bs' := bs ++ [.int .u8 (y.toNat : Int)]) (by rw [List.length_append]; exact hown2) (by decide)
  have hbel2 : Below B w w2 := (hbel.alloc (by omega) _).grown hg (by simp; omega) (fun k hk => (HO.out.lt k hk).1)
  have HP := Lib.hid hput
  have HB := Lib.hid hbel2
  clear hput hbel2 hown2 hg hbk2 c0 c1
  go_wp2
  go_ret
  exact ⟨rfl, .inr HP.out, HB.out.setCell (p := ⟨b, 1, none⟩) hb _⟩
end Go.Proofs.YtkkiedmcpibnaaaDoor
