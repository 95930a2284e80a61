/- The contracts of Num and Text, in the program's own text. -/
import Derived.Test.YtkkiedmcpibnaaaDoorRows
import Derived.Test.YtkkiedmcpibnaaaDoorDigMath
import Derived.Test.YtkkiedmcpibnaaaDoorBase
import Derived.WalkKit
import Derived.WalkSpells
import Derived.WalkLawsBesides
import Derived.ScopeJumps
import Derived.Laws.BytesArg
import Derived.Lib.Hide
namespace Go.Proofs.YtkkiedmcpibnaaaDoor
open Go.RowKit

/-- 'string(b[at:])' of a block of the call's own. -/
theorem conv_tail (w : World) (ys : List UInt8) (at' : Nat) (h : at' ≤ ys.length) (t : TypeId) (l c : Nat) (hl : l = ys.length - at') :
    (convert 67 9 (.slice (some ⟨w.heap.size, at', none⟩) l c)).run Tryd.prog (w.alloc (.cells (ys.map bv).toArray t)) = .ok (tx (ys.drop at')) (w.alloc (.cells (ys.map bv).toArray t)) := by
  subst hl
  rw [run_convert_bytes_arg (P := Tryd.prog) (w.alloc (.cells (ys.map bv).toArray t)) 67 5 Tryd.underlying67 Tryd.underlying5 w.heap.size at' (ys.length - at') c ((ys.drop at').map fun y => (y.toNat : Int)) (by simp) (fun i hi => by
    rw [World.cell?_alloc_at _ _ _ _ rfl]
    simp [List.getD, bv]
    rw [List.getElem?_eq_getElem (by omega)]
    simp) 9 Tryd.underlying9, strOfNums_bytes]

theorem set_bv (ys : List UInt8) (i : Nat) (m : Nat) : (ys.map bv).set i (.int .u8 ((m : Int) % 256)) = (ys.set i (UInt8.ofNat (m % 256))).map bv := by
  simp [List.map_set, bv]

theorem cell_bv (ys : List UInt8) (i : Nat) (h : i < ys.length) : ((ys.map bv).toArray)[i]? = some (bv (ys.getD i 0)) := by
  simp [List.getD, List.getElem?_eq_getElem h]

/-- 'b[at:]' of an array of nine. -/
theorem slice_nine (b : Nat) (at' : Nat) (h : at' ≤ 8) (w : World) : (Instr.sliceAt 73 (.pointer (some ⟨b, 0, none⟩)) (some (.int .i64 at')) none none).run Tryd.prog w = .ok (.slice (some ⟨b, at', none⟩) (9 - at') (9 - at')) w := by
  have hl : Tryd.prog.arrayLen 73 = 9 := by kernel_rfl
  have hz : ∀ w, (Go.sizeOf (Tryd.prog.elem 73)).run Tryd.prog w = .ok 1 w := fun _ => by kernel_rfl
  rw [run_sliceAt_array_l w 73 ⟨b, 0, none⟩ (by kernel_rfl) .i64 at' (by omega) (by rw [hl]; omega), hl, hz]
  have hne : ¬ 9 = at' := by omega
  by_cases h0 : at' = 0
  · subst h0
    simp [Result.andThen, slicedAt, Addr.add]
  · simp [Result.andThen, slicedAt, Addr.add, hne, h0]

theorem set_len (ys : List UInt8) (i : Nat) (h : i ≤ 8) : (ys.map bv).set i (.int .u8 (8 - (i : Int))) = (ys.set i (UInt8.ofNat (8 - i))).map bv := by
  rw [List.map_set]
  congr 1
  simp [bv, UInt8.toNat_ofNat']
  omega

set_option maxHeartbeats 1000000 in
set_option maxRecDepth 100000 in
theorem num_any (n : Nat) (hn : n < 18446744073709551616) (w : World) :
    Calls Tryd.prog 33 #[.int .u64 n] w fun e w' => e = .returned (tx (Dg.num n)) ∧ Below w.heap.size w w' := by
  go_enter Tryd.func33, Tryd.ntmps33
  go_wp2_with fail
  refine wp_scope_jumps 0 (fun a' w' => ∃ (m at' : Nat) (ys : List UInt8) (u5 u6 u7 u8 u9 u10 u11 u12 u13 u14 : Value), a' = { tmps := #[.int .u64 m, undef, .string ⟨#[]⟩, .pointer (some ⟨w.heap.size, 0, none⟩), .int .i64 at', u5, u6, u7, u8, u9, u10, u11, u12, u13, u14, undef, undef, undef, undef, undef, undef, undef, undef], defers := [] }
     ∧ w' = w.alloc (.cells (ys.map bv).toArray 73) ∧ ys.length = 9 ∧ at' ≤ 8 ∧ m < 256 ^ at' ∧ Dg.bytes n = Dg.bytesF at' m ++ ys.drop (at' + 1)) (fun a' _ => (intOf (a'.tmps.getD 0 undef)).toNat) rfl ?_ ?_
  · by_cases h0 : 0 < n
    · have hb : Dg.bytes n = Dg.bytesF 7 (n / 256) ++ [UInt8.ofNat (n % 256)] := Dg.bytesF_step 7 n (by omega)
      have HB := Lib.hid hb
      clear hb
      go_wp2
      go_step3
      go_wp2
      go_step3
      refine ⟨rfl, n / 256, 7, [0,0,0,0,0,0,0,0,UInt8.ofNat (n % 256)], _, _, _, _, _, _, _, _, _, _, rfl, ?_, rfl, by omega, by omega, HB.out⟩
      congr 1
      simp [bv]
    · obtain rfl : n = 0 := by omega
      have hv := conv_tail w [0,0,0,0,0,0,0,0,0] 8 (by decide) 73 1 1 rfl
      simp [bv] at hv
      go_wp2
      go_step3
      go_wp2
      simp only [Exit.jump]
      go_ret
      exact ⟨rfl, (Below.refl _ _).alloc (Nat.le_refl _) _⟩
  · rintro a' w' ⟨m, at', ys, u5, u6, u7, u8, u9, u10, u11, u12, u13, u14, rfl, rfl, hy, h8, hm, hb⟩
    by_cases h0 : 0 < m
    · have ha : 0 < at' := by rcases Nat.eq_zero_or_pos at' with h | h; (subst h; simp at hm; omega); exact h
      have hc := cell_bv ys at' (by omega)
      obtain ⟨k, rfl⟩ : ∃ k, at' = k + 1 := ⟨at' - 1, by omega⟩
      have hb' : Dg.bytes n = Dg.bytesF k (m / 256) ++ (ys.set (k + 1) (UInt8.ofNat (m % 256))).drop (k + 1) := by
        rw [hb, Dg.bytesF_step k m (by omega), List.append_assoc]
        congr 1
        rw [List.drop_eq_getElem_cons (i := k + 1) (by simp; omega)]
        simp [List.drop_set]
      have hm' : m / 256 < 256 ^ k := by rw [Nat.pow_succ] at hm; omega
      have HB := Lib.hid hb'
      have HY := Lib.hid hy
      clear hb hb' hm hn hy
      go_wp2
      go_step3
      refine ⟨rfl, ⟨m / 256, k, ys.set (k + 1) (UInt8.ofNat (m % 256)), _, _, _, _, _, _, _, _, _, _, rfl, ?_, by simpa using HY.out, by omega, hm', HB.out⟩, ?_⟩
      · rw [set_bv]
      · simp [intOf]; omega
    · obtain rfl : m = 0 := by omega
      have hc := cell_bv ys at' (by omega)
      have hv := conv_tail w (ys.set at' (UInt8.ofNat (8 - at'))) at' (by simp; omega) 73 (9 - at') (9 - at') (by simp; omega)
      rw [← set_len ys at' h8] at hv
      have hs := slice_nine w.heap.size at' h8
      have hf : (ys.set at' (UInt8.ofNat (8 - at'))).drop at' = Dg.num n := by
        rw [List.drop_eq_getElem_cons (i := at') (by simp; omega)]
        have hb' : Dg.bytes n = ys.drop (at' + 1) := by rw [hb, Dg.bytesF_zero]; rfl
        simp only [List.getElem_set_self, List.drop_set]
        rw [if_pos (by omega), ← hb', Dg.num, hb', List.length_drop, hy]
        congr 2
        omega
      rw [hf] at hv
      have HF := Lib.hid hf
      clear hf hb hy hm
      go_wp2
      simp only [Exit.jump]
      go_ret
      exact ⟨rfl, (Below.refl _ _).alloc (Nat.le_refl _) _⟩
end Go.Proofs.YtkkiedmcpibnaaaDoor
