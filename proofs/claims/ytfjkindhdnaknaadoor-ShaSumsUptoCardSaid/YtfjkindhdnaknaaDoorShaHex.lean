/- Bytes in digits, as the program makes them. -/
import Derived.Test.YtfjkindhdnaknaaDoorShaSum
namespace Sh
theorem hex_len (s : List UInt8) : (hex s).length = 2 * s.length := by
  induction s with
  | nil => rfl
  | cons x s ih =>
    have : hex (x :: s) = [sign (x.toNat / 16), sign (x.toNat % 16)] ++ hex s := rfl
    rw [this, List.length_append, ih]; simp; omega
theorem hex_snoc (s : List UInt8) (y : UInt8) : hex (s ++ [y]) = hex s ++ [sign (y.toNat / 16)] ++ [sign (y.toNat % 16)] := by simp [hex]
def signs : List UInt8 := [48, 49, 50, 51, 52, 53, 54, 55, 56, 57, 97, 98, 99, 100, 101, 102]
theorem signs_at (n : Nat) (h : n < 16) : signs[n]'h = sign n := by
  match n, h with
  | 0, _ => rfl
  | 1, _ => rfl
  | 2, _ => rfl
  | 3, _ => rfl
  | 4, _ => rfl
  | 5, _ => rfl
  | 6, _ => rfl
  | 7, _ => rfl
  | 8, _ => rfl
  | 9, _ => rfl
  | 10, _ => rfl
  | 11, _ => rfl
  | 12, _ => rfl
  | 13, _ => rfl
  | 14, _ => rfl
  | 15, _ => rfl
  | n + 16, h => exact absurd h (by omega)
end Sh
namespace Go.Proofs.YtfjkindhdnaknaaDoor
open Go.RowKit
attribute [local go_sem] byte_at

set_option maxHeartbeats 2000000 in
theorem phex (s : List UInt8) (hs : s.length ≤ 70368744177664) (w : World) :
    Calls Tryd.prog 22 #[tx s] w fun e w' => e = .returned (tx (Sh.hex s)) ∧ Below w.heap.size w w' := by
  have hbk : (w.alloc (.cells #[.pointer none, .slice none 0 0] 41)).heap[w.heap.size]? = some (.cells #[.pointer none, .slice none 0 0] 41 (0, 0)) := heap_alloc_last w _
  have HBK := Lib.hid hbk
  have hb0 : Below w.heap.size w (w.alloc (.cells #[.pointer none, .slice none 0 0] 41)) := (Below.refl _ _).alloc (Nat.le_refl _) _
  have HB0 := Lib.hid hb0
  have EG := Lib.hid (show 2 * (s.length : Int) = ((2 * s.length : Nat) : Int) by omega)
  clear hbk hb0
  go_enter Tryd.func22, Tryd.ntmps22
  go_wp2_with fail
  rw [EG.out]
  refine (builderGrow_any w.heap.size w.heap.size _ _ (Nat.le_refl _) HBK.out (by simp) (by omega)).mono ?_
  rintro e w1 ⟨rfl, hi1, hb1⟩
  have HI1 := Lib.hid hi1
  have HB1 := Lib.hid (HB0.out.trans hb1)
  clear hi1 hb1
  go_wp2_with fail
  go_loopw [4, 11] (fun _ i wr => ∃ k : Nat, i = .int .i64 k ∧ k ≤ s.length ∧ Lib.IsBuilder 41 5 w.heap.size w.heap.size ((Sh.hex (s.take k)).map bv) wr ∧ Below w.heap.size w wr) (fun _ i _ => s.length - (intOf i).toNat)
  case atStart => exact ⟨0, rfl, by omega, by simpa [Sh.hex] using HI1.out, HB1.out⟩
  case round =>
    obtain ⟨k, rfl, hk, hi, hbel⟩ := hrel
    have HI := Lib.hid hi
    have HB := Lib.hid hbel
    clear hi hbel
    by_cases hlt : k < s.length
    · have hyl := s[k].toNat_lt
      have hst : Sh.hex (s.take (k + 1)) = Sh.hex (s.take k) ++ [Sh.sign (s[k].toNat / 16)] ++ [Sh.sign (s[k].toNat % 16)] := by
        rw [List.take_succ_eq_append_getElem hlt, Sh.hex_snoc]
      have HST := Lib.hid hst
      have hl1 : (Sh.hex (s.take k)).length = 2 * k := by rw [Sh.hex_len, List.length_take, Nat.min_eq_left hk]
      have HL1 := Lib.hid hl1
      have hd : s[k].toNat / 16 < 16 := by omega
      have hm : s[k].toNat % 16 < 16 := by omega
      have hl2 : bits .and .u8 (s[k].toNat : Int) 15 = ((s[k].toNat % 16 : Nat) : Int) := by
        have := u8_and_nat s[k].toNat 15 (by omega) (by decide)
        rw [nat_mask4] at this
        exact this
      have q1 := Lib.hid (show ((Sh.sign (s[k].toNat / 16)).toNat : Int) = ([48, 49, 50, 51, 52, 53, 54, 55, 56, 57, 97, 98, 99, 100, 101, 102][s[k].toNat / 16]'(by simpa using hd) : UInt8).toNat by rw [← Sh.signs_at _ hd]; rfl)
      have q2 := Lib.hid (show ((Sh.sign (s[k].toNat % 16)).toNat : Int) = ([48, 49, 50, 51, 52, 53, 54, 55, 56, 57, 97, 98, 99, 100, 101, 102][s[k].toNat % 16]'(by simpa using hm) : UInt8).toNat by rw [← Sh.signs_at _ hm]; rfl)
      clear hst hl1
      go_wp2_with fail
      refine (writeByte_eq q1.out w.heap.size w.heap.size _ _ HI.out (by rw [HL1.out]; omega) HB.out.size).mono ?_
      rintro e w3 ⟨rfl, hi3, hb3⟩
      have HI3 := Lib.hid hi3
      have HB3 := Lib.hid (HB.out.trans hb3)
      clear hi3 hb3
      go_wp2_with fail
      refine (writeByte_eq q2.out w.heap.size w.heap.size _ _ HI3.out (by rw [List.length_append, HL1.out]; simp; omega) HB3.out.size).mono ?_
      rintro e w4 ⟨rfl, hi4, hb4⟩
      rw [← HST.out] at hi4
      have HI4 := Lib.hid hi4
      have HB4 := Lib.hid (HB3.out.trans hb4)
      clear hi4 hb4
      go_wp2
      go_roundw
      case rel => exact ⟨k + 1, by go_num, hlt, HI4.out, HB4.out⟩
      case measure => simp [intOf]; omega
    · obtain rfl : k = s.length := by omega
      rw [List.take_length] at HI
      go_wp2_with fail
      refine (string_any w.heap.size w.heap.size _ _ HI.out HB.out.size).mono ?_
      rintro e w6 ⟨rfl, hb6⟩
      have HB6 := Lib.hid (HB.out.trans hb6)
      clear hb6
      go_wp2
      go_ret
      exact ⟨rfl, HB6.out⟩
end Go.Proofs.YtfjkindhdnaknaaDoor
