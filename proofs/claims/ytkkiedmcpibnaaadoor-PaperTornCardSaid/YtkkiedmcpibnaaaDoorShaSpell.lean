/- A state's bytes, as the program makes them. -/
import Derived.Test.YtkkiedmcpibnaaaDoorShaPad
namespace Sh
theorem spell_at (a b c d e f g k : Nat) (i : Nat) (h : i < 32) : (spell [a, b, c, d, e, f, g, k]).take (i + 1) = (spell [a, b, c, d, e, f, g, k]).take i ++ [UInt8.ofNat (([a, b, c, d, e, f, g, k].getD (i / 4) 0) / 2 ^ (8 * (3 - i % 4)) % 256)] := by
  match i, h with
  | 0, _ => simp [spell, be4]
  | 1, _ => simp [spell, be4]
  | 2, _ => simp [spell, be4]
  | 3, _ => simp [spell, be4]
  | 4, _ => simp [spell, be4]
  | 5, _ => simp [spell, be4]
  | 6, _ => simp [spell, be4]
  | 7, _ => simp [spell, be4]
  | 8, _ => simp [spell, be4]
  | 9, _ => simp [spell, be4]
  | 10, _ => simp [spell, be4]
  | 11, _ => simp [spell, be4]
  | 12, _ => simp [spell, be4]
  | 13, _ => simp [spell, be4]
  | 14, _ => simp [spell, be4]
  | 15, _ => simp [spell, be4]
  | 16, _ => simp [spell, be4]
  | 17, _ => simp [spell, be4]
  | 18, _ => simp [spell, be4]
  | 19, _ => simp [spell, be4]
  | 20, _ => simp [spell, be4]
  | 21, _ => simp [spell, be4]
  | 22, _ => simp [spell, be4]
  | 23, _ => simp [spell, be4]
  | 24, _ => simp [spell, be4]
  | 25, _ => simp [spell, be4]
  | 26, _ => simp [spell, be4]
  | 27, _ => simp [spell, be4]
  | 28, _ => simp [spell, be4]
  | 29, _ => simp [spell, be4]
  | 30, _ => simp [spell, be4]
  | 31, _ => simp [spell, be4]
  | n + 32, h => omega
theorem spell_len (a b c d e f g k : Nat) : (spell [a, b, c, d, e, f, g, k]).length = 32 := rfl
end Sh
namespace Go.Proofs.YtkkiedmcpibnaaaDoor
open Go.RowKit

/-- The block B holds the bytes ys. -/
def BRow (W : World) (B : Nat) (t : TypeId) (ys : List UInt8) : Prop := W.heap[B]? = some (.cells (ys.map bv).toArray t (0, 0))
theorem BRow.lt {W : World} {B : Nat} {t : TypeId} {ys : List UInt8} (h : BRow W B t ys) : B < W.heap.size := (Array.getElem?_eq_some_iff.1 h).1
theorem BRow.cell {W : World} {B : Nat} {t : TypeId} {ys : List UInt8} (h : BRow W B t ys) (i : Nat) (hi : i < ys.length) : W.cell? ⟨B, i, none⟩ = some (bv ys[i]) := by
  have e : W.heap[B]? = _ := h
  simp [World.cell?, e, hi]
theorem BRow.frozen {W : World} {B : Nat} {t : TypeId} {ys : List UInt8} (h : BRow W B t ys) (i : Nat) : W.frozen? ⟨B, i, none⟩ = false := by
  have e : W.heap[B]? = _ := h
  simp [World.frozen?, e]
theorem BRow.set {W : World} {B : Nat} {t : TypeId} {ys : List UInt8} (h : BRow W B t ys) (i : Nat) (v : UInt8) : BRow (W.setCell ⟨B, i, none⟩ (bv v)) B t (ys.set i v) := by
  obtain ⟨hlt, hk⟩ := Array.getElem?_eq_some_iff.1 h
  show (W.heap.modify B _)[B]? = _
  rw [Array.getElem?_eq_getElem (by rw [Array.size_modify]; exact hlt), Array.getElem_modify_self, hk]
  simp [List.map_set]
theorem BRow.text {W : World} {B : Nat} {t : TypeId} {ys : List UInt8} (h : BRow W B t ys) (n : Nat) (hn : ys.length = n) (c : Nat) :
    (convert 67 9 (.slice (some ⟨B, 0, none⟩) n c)).run Tryd.prog W = .ok (tx ys) W := by
  subst hn
  rw [run_convert_bytes_arg (P := Tryd.prog) W 67 5 Tryd.underlying67 Tryd.underlying5 B 0 ys.length c (ys.map fun y => (y.toNat : Int)) (by simp) (fun i hi => by
    rw [Nat.zero_add, h.cell i hi]
    simp [List.getD, hi, bv]) 9 Tryd.underlying9, strOfNums_bytes]

theorem set_step {α : Type} (l : List α) (z v : α) (n k : Nat) (hl : l.length = n) (hk : k < n) (h : l.take (k + 1) = l.take k ++ [v]) : ((l.take k) ++ List.replicate (n - k) z).set k v = l.take (k + 1) ++ List.replicate (n - (k + 1)) z := by
  obtain ⟨j, hj⟩ : ∃ j, n - k = j + 1 := ⟨n - k - 1, by omega⟩
  have hlk : (l.take k).length = k := by simp; omega
  rw [hj, List.set_append_right _ _ (by omega), hlk, Nat.sub_self, List.replicate_succ, List.set_cons_zero, h, show n - (k + 1) = j by omega]
  simp

theorem byte_of (x e : Nat) : bv (UInt8.ofNat (x / 2 ^ e % 256)) = .int .u8 ((x : Int) / 2 ^ e % 256) := by
  unfold bv
  rw [UInt8.toNat_ofNat', show (x / 2 ^ e % 256) % 2 ^ 8 = x / 2 ^ e % 256 by omega]
  simp

set_option maxHeartbeats 2000000 in
set_option maxRecDepth 100000 in
theorem pspell (a b c d e f g k : Nat) (w : World) :
    Calls Tryd.prog 45 #[.agg #[uv a, uv b, uv c, uv d, uv e, uv f, uv g, uv k]] w fun ee w' => ee = .returned (tx (Sh.spell [a, b, c, d, e, f, g, k])) ∧ Below w.heap.size w w' := by
  have hbox : ARow (w.alloc (.cells #[uv a, uv b, uv c, uv d, uv e, uv f, uv g, uv k] 63)) w.heap.size 63 [a, b, c, d, e, f, g, k] := ARow.new w 63 [a, b, c, d, e, f, g, k]
  have hbox2 := hbox.alloc (.cells ((List.replicate 32 (0 : UInt8)).map bv).toArray 95)
  have hrow : BRow ((w.alloc (.cells #[uv a, uv b, uv c, uv d, uv e, uv f, uv g, uv k] 63)).alloc (.cells ((List.replicate 32 (0 : UInt8)).map bv).toArray 95)) (w.heap.size + 1) 95 (List.replicate 32 0) := by
    have := heap_alloc_last (w.alloc (.cells #[uv a, uv b, uv c, uv d, uv e, uv f, uv g, uv k] 63)) (.cells ((List.replicate 32 (0 : UInt8)).map bv).toArray 95)
    simp only [World.size_alloc] at this
    exact this
  have hg0 : Below w.heap.size w ((w.alloc (.cells #[uv a, uv b, uv c, uv d, uv e, uv f, uv g, uv k] 63)).alloc (.cells ((List.replicate 32 (0 : UInt8)).map bv).toArray 95)) := ((Below.refl _ _).alloc (Nat.le_refl _) _).alloc (by simp) _
  have HX := Lib.hid hbox2
  have HR := Lib.hid hrow
  have HG := Lib.hid hg0
  have hsl := Sh.spell_len a b c d e f g k
  have HSA := Lib.hid (Sh.spell_at a b c d e f g k)
  obtain ⟨sp, hsp⟩ : ∃ x, Sh.spell [a, b, c, d, e, f, g, k] = x := ⟨_, rfl⟩
  rw [hsp] at hsl HSA
  have HSP := Lib.hid hsp
  have HSL := Lib.hid hsl
  clear hbox hbox2 hrow hg0 hsp hsl
  go_enter Tryd.func45, Tryd.ntmps45
  go_wp2_with fail
  go_loopw [4, 5] (fun _ i wr => ∃ n : Nat, i = .int .i64 n ∧ n ≤ 32 ∧ ARow wr w.heap.size 63 [a, b, c, d, e, f, g, k] ∧ BRow wr (w.heap.size + 1) 95 (sp.take n ++ List.replicate (32 - n) 0) ∧ Below w.heap.size w wr) (fun _ i _ => 32 - (intOf i).toNat)
  case atStart => exact ⟨0, rfl, by omega, HX.out, HR.out, HG.out⟩
  case round =>
    obtain ⟨n, rfl, hn, hx, hr, hbel⟩ := hrel
    by_cases hlt : n < 32
    · obtain ⟨j, hj⟩ : ∃ j, n / 4 = j := ⟨_, rfl⟩
      obtain ⟨r, hr4⟩ : ∃ r, n % 4 = r := ⟨_, rfl⟩
      have hq : (n : Int) / 4 = (j : Int) := by omega
      have hm : (n : Int) % 4 = (r : Int) := by omega
      have hjl : j < 8 := by omega
      have hrl : r < 4 := by omega
      have hc := hx.cell j (by simpa using hjl)
      obtain ⟨v, hv⟩ : ∃ v, [a, b, c, d, e, f, g, k][j]'(by simpa using hjl) = v := ⟨_, rfl⟩
      rw [hv] at hc
      have hln : (sp.take n ++ List.replicate (32 - n) (0 : UInt8)).length = 32 := by simp [HSL.out]; omega
      have hcb := hr.cell n (by omega)
      have hfz := hr.frozen n
      obtain ⟨y0, hy0⟩ : ∃ y, (sp.take n ++ List.replicate (32 - n) (0 : UInt8))[n]'(by omega) = y := ⟨_, rfl⟩
      rw [hy0] at hcb
      have hst : sp.take (n + 1) = sp.take n ++ [UInt8.ofNat (v / 2 ^ (8 * (3 - r)) % 256)] := by
        rw [HSA.out n hlt, hj, hr4]
        have : [a, b, c, d, e, f, g, k].getD j 0 = v := by rw [List.getD, List.getElem?_eq_getElem (by simpa using hjl)]; exact hv
        rw [this]
      have hset := set_step sp 0 _ 32 n HSL.out hlt hst
      have hnew := hr.set n (UInt8.ofNat (v / 2 ^ (8 * (3 - r)) % 256))
      rw [hset, byte_of] at hnew
      have HN := Lib.hid hnew
      have HXX := Lib.hid hx
      have HB := Lib.hid hbel
      clear hx hr hbel hv hy0 hst hset hnew hj hr4 hln
      have w2' : (0 : Int) ≤ (j : Int) := by omega
      have w3' : (j : Int) < 8 := by omega
      go_wp2
      go_roundw
      case rel => exact ⟨n + 1, by go_num, by omega, HXX.out.other _ _ _ (by omega), HN.out, HB.out.setCell (p := ⟨w.heap.size + 1, n, none⟩) (by simp) _⟩
      case measure => simp [intOf]; omega
    · obtain rfl : n = 32 := by omega
      have hr2 : BRow wr (w.heap.size + 1) 95 sp := by
        have h := hr
        rw [List.take_of_length_le (by rw [HSL.out]; exact Nat.le_refl _)] at h
        simpa using h
      have htx := hr2.text 32 HSL.out 32
      have HB := Lib.hid hbel
      clear hx hr hr2 hbel
      go_wp2
      go_ret
      exact ⟨by rw [HSP.out]; rfl, HB.out⟩
end Go.Proofs.YtkkiedmcpibnaaaDoor
