/- A text made longer, as the program does it. -/
import Derived.Test.YtkkiedmcpibnaaaDoorShaBlock
import Derived.Test.YtkkiedmcpibnaaaDoorBuilder2
set_option maxRecDepth 100000
namespace Sh
theorem zeros_lt (n : Nat) : zeros n < 64 := Nat.mod_lt _ (by decide)
theorem be8_len (n : Nat) : (be8 n).length = 8 := by simp [be8]
theorem be8_at (n k : Nat) (h : k < 8) : (be8 n).take (k + 1) = (be8 n).take k ++ [UInt8.ofNat (n / 2 ^ (8 * (7 - k)) % 256)] := by
  rw [List.take_succ_eq_append_getElem (by rw [be8_len]; exact h)]
  simp [be8]
end Sh
namespace Go.Proofs.YtkkiedmcpibnaaaDoor
open Go.RowKit

theorem byte_len (n e : Nat) : ((UInt8.ofNat (8 * n / 2 ^ e % 256)).toNat : Int) = (n : Int) * 8 / 2 ^ e % 256 := by
  rw [UInt8.toNat_ofNat']
  have e1 : (8 * n / 2 ^ e % 256) % 2 ^ 8 = n * 8 / 2 ^ e % 256 := by rw [Nat.mul_comm 8 n]; omega
  rw [e1]
  simp
theorem writeByte_eq {n : Int} {y : UInt8} (hn : (y.toNat : Int) = n) (B b : Nat) (bs : List UInt8) (w : World) (h : Lib.IsBuilder 86 5 B b (bs.map bv) w) (hl : bs.length + 1 ≤ 140737488355328) (hB : B ≤ w.heap.size) :
    Calls Tryd.prog 52 #[.pointer (some ⟨b, 0, none⟩), .int .u8 n] w fun e w' => e = .returned .nilIface ∧ Lib.IsBuilder 86 5 B b ((bs ++ [y]).map bv) w' ∧ Below B w w' := by
  subst hn
  have := writeByte_any B b (bs.map bv) y w h (by simpa using hl) hB
  simpa [bv] using this

set_option maxHeartbeats 2000000 in
theorem ppad (s : List UInt8) (hs : s.length ≤ 140737488351232) (w : World) :
    Calls Tryd.prog 43 #[tx s] w fun e w' => e = .returned (tx (Sh.pad s)) ∧ Below w.heap.size w w' := by
  have hbk : (w.alloc (.cells #[.pointer none, .slice none 0 0] 86)).heap[w.heap.size]? = some (.cells #[.pointer none, .slice none 0 0] 86 (0, 0)) := heap_alloc_last w _
  have HBK := Lib.hid hbk
  have hb0 : Below w.heap.size w (w.alloc (.cells #[.pointer none, .slice none 0 0] 86)) := (Below.refl _ _).alloc (Nat.le_refl _) _
  have HB0 := Lib.hid hb0
  obtain ⟨z, hz⟩ : ∃ z, Sh.zeros s.length = z := ⟨_, rfl⟩
  have hzl : z < 64 := by rw [← hz]; exact Sh.zeros_lt _
  have EZ := Lib.hid (show (119 - (s.length : Int) % 64) % 64 = (z : Int) by rw [← hz]; unfold Sh.zeros; omega)
  have EG := Lib.hid (show (s.length : Int) + 1 + (119 - (s.length : Int)) % 64 + 8 = ((s.length + 9 + z : Nat) : Int) by rw [← hz]; unfold Sh.zeros; omega)
  have HPD := Lib.hid (show Sh.pad s = (s ++ 128 :: List.replicate z 0) ++ (Sh.be8 (8 * s.length)).take 8 by
    rw [Sh.pad, hz, List.take_of_length_le (by rw [Sh.be8_len]; exact Nat.le_refl _)]; simp)
  clear hbk hb0 hz
  go_enter Tryd.func43, Tryd.ntmps43
  go_wp2_with fail
  rw [EG.out, EZ.out]
  refine (builderGrow_any w.heap.size w.heap.size _ _ (Nat.le_refl _) HBK.out (by simp) (by omega)).mono ?_
  rintro e w1 ⟨rfl, hi1, hb1⟩
  have HI1 := Lib.hid hi1
  have HB1 := Lib.hid (HB0.out.trans hb1)
  clear hi1 hb1
  go_wp2_with fail
  refine (writeString_any w.heap.size w.heap.size [] s _ HI1.out (by simp; omega) HB1.out.size).mono ?_
  rintro e w2 ⟨rfl, hi2, hb2⟩
  have HI2 := Lib.hid hi2
  have HB2 := Lib.hid (HB1.out.trans hb2)
  clear hi2 hb2
  go_wp2_with fail
  refine (writeByte_eq (y := 128) rfl w.heap.size w.heap.size s _ (by simpa using HI2.out) (by omega) HB2.out.size).mono ?_
  rintro e w3 ⟨rfl, hi3, hb3⟩
  have HI3 := Lib.hid hi3
  have HB3 := Lib.hid (HB2.out.trans hb3)
  clear hi3 hb3
  go_wp2_with fail
  go_loopw [27] (fun i wr => ∃ k : Nat, i = .int .i64 k ∧ k ≤ z ∧ Lib.IsBuilder 86 5 w.heap.size w.heap.size ((s ++ 128 :: List.replicate k 0).map bv) wr ∧ Below w.heap.size w wr) (fun i _ => z - (intOf i).toNat)
  case atStart => exact ⟨0, rfl, by omega, by simpa using HI3.out, HB3.out⟩
  case round =>
    obtain ⟨k, rfl, hk, hi, hbel⟩ := hrel
    have HI := Lib.hid hi
    have HB := Lib.hid hbel
    clear hi hbel
    by_cases hlt : k < z
    · go_wp2_with fail
      refine (writeByte_eq (y := 0) rfl w.heap.size w.heap.size _ _ HI.out (by simp; omega) HB.out.size).mono ?_
      rintro e w4 ⟨rfl, hi4, hb4⟩
      have HI4 := Lib.hid (show Lib.IsBuilder 86 5 w.heap.size w.heap.size ((s ++ 128 :: List.replicate (k + 1) 0).map bv) w4 by rw [List.replicate_succ']; simpa using hi4)
      have HB4 := Lib.hid (HB.out.trans hb4)
      clear hi4 hb4
      go_wp2
      go_roundw
      case rel => exact ⟨k + 1, by go_num, hlt, HI4.out, HB4.out⟩
      case measure => simp [intOf]; omega
    · obtain rfl : k = z := by omega
      go_wp2_with fail
      go_loopw [6, 31] (fun _ i wr => ∃ j : Nat, i = .int .i64 j ∧ j ≤ 8 ∧ Lib.IsBuilder 86 5 w.heap.size w.heap.size (((s ++ 128 :: List.replicate k 0) ++ (Sh.be8 (8 * s.length)).take j).map bv) wr ∧ Below w.heap.size w wr) (fun _ i _ => 8 - (intOf i).toNat)
      case atStart => exact ⟨0, rfl, by omega, by simpa using HI.out, HB.out⟩
      case round =>
        obtain ⟨j, rfl, hj, hi, hbel⟩ := hrel
        have HI2 := Lib.hid hi
        have HB2 := Lib.hid hbel
        clear hi hbel
        by_cases hlt8 : j < 8
        · go_wp2_with fail
          refine (writeByte_eq (y := UInt8.ofNat (8 * s.length / 2 ^ (8 * (7 - j)) % 256)) (byte_len s.length (8 * (7 - j))) w.heap.size w.heap.size _ _ HI2.out (by simp [Sh.be8_len]; omega) HB2.out.size).mono ?_
          rintro e w4 ⟨rfl, hi4, hb4⟩
          rw [List.append_assoc, ← Sh.be8_at _ _ hlt8] at hi4
          have HI4 := Lib.hid hi4
          have HB4 := Lib.hid (HB2.out.trans hb4)
          clear hi4 hb4
          go_wp2
          go_roundw
          case rel => exact ⟨j + 1, by go_num, hlt8, HI4.out, HB4.out⟩
          case measure => simp [intOf]; omega
        · obtain rfl : j = 8 := by omega
          obtain ⟨P, hP⟩ : ∃ P, (s ++ 128 :: List.replicate k 0) ++ (Sh.be8 (8 * s.length)).take 8 = P := ⟨_, rfl⟩
          rw [hP] at HI2 HPD
          clear hP
          go_wp2_with fail
          refine (string_any w.heap.size w.heap.size _ _ HI2.out HB2.out.size).mono ?_
          rintro e w6 ⟨rfl, hb6⟩
          have HB6 := Lib.hid (HB2.out.trans hb6)
          clear hb6
          go_wp2
          go_ret
          exact ⟨by rw [HPD.out]; rfl, HB6.out⟩
end Go.Proofs.YtkkiedmcpibnaaaDoor
