/- The words of a block, as the program makes them. -/
import Derived.Test.YtkkiedmcpibnaaaDoorShaRow
import Derived.StillTailTactics
namespace Go.Proofs.YtkkiedmcpibnaaaDoor
open Go.RowKit
attribute [local go_sem] byte_at

theorem or_word (v : Nat) (y : UInt8) (h : v < 16777216) : bits .or .u32 (IntKind.u32.wrap ((v : Int) * 256)) (IntKind.u32.wrap (y.toNat : Int)) = ((v * 256 + y.toNat : Nat) : Int) := by
  have hy := y.toNat_lt
  have e1 : IntKind.u32.wrap ((v : Int) * 256) = ((v * 256 : Nat) : Int) := by rw [IntKind.wrap_u32']; omega
  have e2 : IntKind.u32.wrap (y.toNat : Int) = ((y.toNat : Nat) : Int) := by rw [IntKind.wrap_u32']; omega
  rw [e1, e2, u32_or_nat _ _ (by omega) (by omega), nat_join 8 _ _ (by omega) (by omega)]

theorem xor_lt {a b : Nat} (ha : a < 4294967296) (hb : b < 4294967296) : a ^^^ b < 4294967296 := Nat.xor_lt_two_pow (n := 32) ha hb
theorem sm0_bits (x : Nat) (hx : x < 4294967296) : bits .xor .u32 (bits .xor .u32 (Sh.rot x 7 : Int) (Sh.rot x 18 : Int)) ((x : Int) / 8) = (Sh.sm0 x : Int) := by
  have h1 := Sh.rot_lt x 7 hx (by decide)
  have h2 := Sh.rot_lt x 18 hx (by decide)
  have e : (x : Int) / 8 = ((x / 8 : Nat) : Int) := by simp
  rw [u32_xor_nat _ _ h1 h2, e, u32_xor_nat _ _ (xor_lt h1 h2) (by omega)]
  rfl
theorem sm1_bits (x : Nat) (hx : x < 4294967296) : bits .xor .u32 (bits .xor .u32 (Sh.rot x 17 : Int) (Sh.rot x 19 : Int)) ((x : Int) / 1024) = (Sh.sm1 x : Int) := by
  have h1 := Sh.rot_lt x 17 hx (by decide)
  have h2 := Sh.rot_lt x 19 hx (by decide)
  have e : (x : Int) / 1024 = ((x / 1024 : Nat) : Int) := by simp
  rw [u32_xor_nat _ _ h1 h2, e, u32_xor_nat _ _ (xor_lt h1 h2) (by omega)]
  rfl
theorem next_eq (b : List UInt8) (m x16 x15 x7 x2 : Nat) (h16 : (Sh.ext m (Sh.head b)).getD m 0 = x16) (h15 : (Sh.ext m (Sh.head b)).getD (m + 1) 0 = x15) (h7 : (Sh.ext m (Sh.head b)).getD (m + 9) 0 = x7)
    (h2 : (Sh.ext m (Sh.head b)).getD (m + 14) 0 = x2) (l15 : x15 < 4294967296) (l2 : x2 < 4294967296) :
    ((Sh.next (Sh.ext m (Sh.head b)) : Nat) : Int) = ((x16 : Int) + bits .xor .u32 (bits .xor .u32 (Sh.rot x15 7 : Int) (Sh.rot x15 18 : Int)) ((x15 : Int) / 8) + (x7 : Int) + bits .xor .u32 (bits .xor .u32 (Sh.rot x2 17 : Int) (Sh.rot x2 19 : Int)) ((x2 : Int) / 1024)) % 4294967296 := by
  have hl : (Sh.ext m (Sh.head b)).length = m + 16 := by rw [Sh.ext_len, Sh.head_len]; omega
  rw [sm0_bits _ l15, sm1_bits _ l2, Sh.next, hl, show m + 16 - 16 = m by omega, show m + 16 - 15 = m + 1 by omega, show m + 16 - 7 = m + 9 by omega, show m + 16 - 2 = m + 14 by omega, h16, h15, h7, h2]
  simp only [Sh.add]
  omega

set_option maxHeartbeats 2000000 in
set_option maxRecDepth 100000 in
theorem psched (b : List UInt8) (hb : b.length = 64) (w : World) :
    Calls Tryd.prog 54 #[tx b] w fun e w' => e = .returned (.agg ((Sh.sched b).map uv).toArray) ∧ Below w.heap.size w w' := by
  have hz : ((List.replicate 64 0).map uv).toArray = #[] ++ ((List.replicate 64 0).map uv).toArray := by simp
  clear hz
  go_enter Tryd.func54, Tryd.ntmps54
  go_wp2_with fail
  go_loopw [4, 10] (fun _ i wr => ∃ (k : Nat) (ws : List Nat), i = .int .i64 k ∧ k ≤ 64 ∧ ws = Sh.parts b k ∧ ARow wr (w.heap.size + 1) 80 ws ∧ ARow wr w.heap.size 80 (List.replicate 64 0) ∧ Below w.heap.size w wr) (fun _ i _ => 64 - (intOf i).toNat)
  case atStart =>
    refine ⟨0, _, rfl, by omega, rfl, ?_, ?_, ((Below.refl _ _).alloc (Nat.le_refl _) _).alloc (by simp) _⟩
    · rw [Sh.parts_zero]
      have := ARow.new (w.alloc (.cells ((List.replicate 64 0).map uv).toArray 80)) 80 (List.replicate 64 0)
      simp only [World.size_alloc] at this
      exact this
    · have := (ARow.new w 80 (List.replicate 64 0)).alloc (.cells ((List.replicate 64 0).map uv).toArray 80)
      exact this
  case round =>
    obtain ⟨k, ws, rfl, hk, hws, hrow, hres, hbel⟩ := hrel
    by_cases hlt : k < 64
    · obtain ⟨j, hj⟩ : ∃ j, k / 4 = j := ⟨_, rfl⟩
      have hj1 : (k : Int) / 4 = (j : Int) := by omega
      have hjl : j < ws.length := by rw [hws, Sh.parts_len]; omega
      have hc := hrow.cell j hjl
      have hf := hrow.frozen j
      have hv : ws[j] = Sh.part b k (k / 4) := by simp [hws, Sh.parts, hj]
      have hvl : ws[j] < 16777216 := by rw [hv]; exact Sh.part_small b k
      have HR := Lib.hid hrow
      have HS := Lib.hid hres
      have HB := Lib.hid hbel
      have HW := Lib.hid hws
      have HV := Lib.hid hv
      clear hrow hres hbel hws hv
      obtain ⟨v, hv⟩ : ∃ v, ws[j] = v := ⟨_, rfl⟩
      rw [hv] at hc hvl
      have hvj : (Sh.parts b k).set j (v * 256 + b[k].toNat) = (Sh.parts b k).set (k / 4) (Sh.part b k (k / 4) * 256 + b[k].toNat) := by rw [hj, ← hv, HV.out, hj]
      have HVJ := Lib.hid hvj
      clear hvj hv
      have HQ := Lib.hid (or_word v b[k] hvl)
      have w1 : IntKind.i64.wrap (j : Int) = (j : Int) := IntWalk.i64_in _ ⟨by omega, by omega⟩
      have w2 : (0 : Int) ≤ (j : Int) := by omega
      have w3 : (j : Int) < 64 := by omega
      have w4 : (0 : Int) ≤ (k : Int) := by omega
      have w5 : (k : Int) < 64 := by omega
      go_wp2_with fail
      go_still_tail 13, (by kernel_rfl)
      rw [HQ.out]
      change wpList _ _ _ _ _ wr.drew
      go_wp2
      go_roundw
      case rel =>
        have e1 : uv (v * 256 + b[k].toNat) = Value.int .u32 ((v : Int) * 256 + (b[k].toNat : Int)) := by simp [uv]
        have e2 := HR.out.set j (v * 256 + b[k].toNat)
        rw [e1, HW.out, HVJ.out, Sh.parts_step b k (by omega)] at e2
        exact ⟨k + 1, _, by go_num, by omega, rfl, e2.draw 1, (HS.out.other _ _ _ (by omega)).draw 1, (HB.out.setCell (p := ⟨w.heap.size + 1, j, none⟩) (by simp) _).drew⟩
      case measure => simp [intOf]; omega
    · obtain rfl : k = 64 := by omega
      rw [Sh.parts_done b hb] at hws
      subst hws
      have HR := Lib.hid (show ARow wr (w.heap.size + 1) 80 (Sh.filled b 0) from hrow)
      have HS := Lib.hid hres
      have HB := Lib.hid hbel
      clear hrow hres hbel
      go_wp2_with fail
      simp only [Int.cast_ofNat_Int]
      go_loopw [5, 6, 7, 8, 9, 27] (fun _ _ _ _ _ i wr => ∃ (k m : Nat), i = .int .i64 k ∧ k ≤ 64 ∧ m = k - 16 ∧ ARow wr (w.heap.size + 1) 80 (Sh.filled b m) ∧ ARow wr w.heap.size 80 (List.replicate 64 0) ∧ Below w.heap.size w wr) (fun _ _ _ _ _ i _ => 64 - (intOf i).toNat)
      case atStart => exact ⟨0, 0, rfl, by omega, rfl, HR.out, HS.out, HB.out⟩
      case round =>
        obtain ⟨k, m, rfl, hk, hm, hrow, hres, hbel⟩ := hrel
        by_cases hlt : k < 64
        · by_cases h16 : k < 16
          · obtain rfl : m = 0 := by omega
            go_wp2
            go_roundw
            case rel => exact ⟨k + 1, 0, by go_num, by omega, by omega, hrow, hres, hbel⟩
            case measure => simp [intOf]; omega
          · obtain rfl : k = m + 16 := by omega
            clear hm
            have hml : m < 48 := by omega
            have hE := Sh.getD_lt _ (Sh.ext_lt m _ (Sh.head_lt b))
            have hfl := Sh.filled_len b m (by omega)
            have c15 := hrow.cell (m + 1) (by omega)
            have c2 := hrow.cell (m + 14) (by omega)
            have c16 := hrow.cell m (by omega)
            have c7 := hrow.cell (m + 9) (by omega)
            have cw := hrow.cell (m + 16) (by omega)
            have fw := hrow.frozen (m + 16)
            rw [Sh.filled_at b m _ (by omega) (by omega)] at c15 c2 c16 c7
            obtain ⟨x15, h15⟩ : ∃ x, (Sh.ext m (Sh.head b)).getD (m + 1) 0 = x := ⟨_, rfl⟩
            obtain ⟨x2, h2⟩ : ∃ x, (Sh.ext m (Sh.head b)).getD (m + 14) 0 = x := ⟨_, rfl⟩
            obtain ⟨x16, h16'⟩ : ∃ x, (Sh.ext m (Sh.head b)).getD m 0 = x := ⟨_, rfl⟩
            obtain ⟨x7, h7⟩ : ∃ x, (Sh.ext m (Sh.head b)).getD (m + 9) 0 = x := ⟨_, rfl⟩
            have l15 : x15 < 4294967296 := by rw [← h15]; exact hE _
            have l2 : x2 < 4294967296 := by rw [← h2]; exact hE _
            have l16 : x16 < 4294967296 := by rw [← h16']; exact hE _
            have l7 : x7 < 4294967296 := by rw [← h7]; exact hE _
            rw [h15] at c15
            rw [h2] at c2
            rw [h16'] at c16
            rw [h7] at c7
            obtain ⟨xo, ho⟩ : ∃ x, (Sh.filled b m)[m + 16]'(by omega) = x := ⟨_, rfl⟩
            rw [ho] at cw
            have HR := Lib.hid hrow
            have HS := Lib.hid hres
            have HB := Lib.hid hbel
            have H15 := Lib.hid h15
            have H2 := Lib.hid h2
            have H16 := Lib.hid h16'
            have H7 := Lib.hid h7
            clear hrow hres hbel h15 h2 h16' h7 ho hE
            have w1 : IntKind.i64.wrap ((m : Int) + 16 - 15) = ((m + 1 : Nat) : Int) := by rw [IntWalk.i64_in _ ⟨by omega, by omega⟩]; omega
            have w2 : IntKind.i64.wrap ((m : Int) + 16 - 2) = ((m + 14 : Nat) : Int) := by rw [IntWalk.i64_in _ ⟨by omega, by omega⟩]; omega
            have w3 : IntKind.i64.wrap (m : Int) = (m : Int) := IntWalk.i64_in _ ⟨by omega, by omega⟩
            have w4 : IntKind.i64.wrap ((m : Int) + 16 - 7) = ((m + 9 : Nat) : Int) := by rw [IntWalk.i64_in _ ⟨by omega, by omega⟩]; omega
            have t16 : decide ((m : Int) + 16 < 16) = false := decide_eq_false (by omega)
            have q1 : (0 : Int) ≤ (m : Int) + 1 := by omega
            have q2 : (m : Int) + 1 < 64 := by omega
            have q3 : ((m : Int) + 1).toNat = m + 1 := by omega
            have q4 : (0 : Int) ≤ (m : Int) + 14 := by omega
            have q5 : (m : Int) + 14 < 64 := by omega
            have q6 : ((m : Int) + 14).toNat = m + 14 := by omega
            have q7 : (0 : Int) ≤ (m : Int) := by omega
            have q8 : (m : Int) < 64 := by omega
            have q10 : (0 : Int) ≤ (m : Int) + 9 := by omega
            have q11 : (m : Int) + 9 < 64 := by omega
            have q12 : ((m : Int) + 9).toNat = m + 9 := by omega
            have q13 : (0 : Int) ≤ (m : Int) + 16 := by omega
            have q14 : (m : Int) + 16 < 64 := by omega
            have q15 : ((m : Int) + 16).toNat = m + 16 := by omega
            go_wp2_with fail
            go_quiet (fail)
            go_wp2_with fail
            refine (pright7 x15 l15 _).mono ?_
            rintro e v1 ⟨rfl, rfl⟩
            go_wp2_with fail
            refine (pright18 x15 l15 _).mono ?_
            rintro e v1 ⟨rfl, rfl⟩
            go_wp2_with fail
            refine (pright17 x2 l2 _).mono ?_
            rintro e v1 ⟨rfl, rfl⟩
            go_wp2_with fail
            refine (pright19 x2 l2 _).mono ?_
            rintro e v1 ⟨rfl, rfl⟩
            go_wp2_with fail
            have HR2 := Lib.hid (HR.out.draw nq)
            have HS2 := Lib.hid (HS.out.draw nq)
            have HB2 := Lib.hid (below_drewN HB.out nq)
            clear c15 c2 c16 c7 cw fw w1 w2 q1 q2 q3 q4 q5 q6 HR HS HB
            generalize wr.drewN nq = wq at *
            have c16 := HR2.out.cell m (by omega)
            have c7 := HR2.out.cell (m + 9) (by omega)
            have cw := HR2.out.cell (m + 16) (by omega)
            have fw := HR2.out.frozen (m + 16)
            rw [Sh.filled_at b m _ (by omega) (by omega)] at c16 c7
            rw [H16.out] at c16
            rw [H7.out] at c7
            obtain ⟨xp, hp⟩ : ∃ x, (Sh.filled b m)[m + 16]'(by omega) = x := ⟨_, rfl⟩
            rw [hp] at cw
            clear hp
            go_still_tail 15, (by kernel_rfl)
            change wpList _ _ _ _ _ wq.drew
            go_wp2
            go_roundw
            case rel =>
              have e2 := HR2.out.set (m + 16) (Sh.next (Sh.ext m (Sh.head b)))
              rw [Sh.filled_step b m hml, uv, next_eq b m x16 x15 x7 x2 H16.out H15.out H7.out H2.out l15 l2] at e2
              have eB := (HB2.out.setCell (p := ⟨w.heap.size + 1, m + 16, none⟩) (by simp) (uv (Sh.next (Sh.ext m (Sh.head b))))).drew
              rw [uv, next_eq b m x16 x15 x7 x2 H16.out H15.out H7.out H2.out l15 l2] at eB
              exact ⟨m + 16 + 1, m + 1, by go_num, by omega, by omega, e2.draw 1, (HS2.out.other _ _ _ (by omega)).draw 1, eB⟩
            case measure => simp [intOf]; omega
        · obtain rfl : k = 64 := by omega
          obtain rfl : m = 48 := by omega
          have hsl := Sh.sched_len b
          have HR := Lib.hid (show ARow wr (w.heap.size + 1) 80 (Sh.sched b) by have h := hrow; simpa [Sh.filled, Sh.sched] using h)
          have HS := Lib.hid hres
          have HB := Lib.hid hbel
          clear hrow hres hbel hm
          obtain ⟨ws, hws⟩ : ∃ ws, Sh.sched b = ws := ⟨_, rfl⟩
          rw [hws] at HR hsl
          have HWS := Lib.hid hws
          clear hws
          go_wp2_with (first
            | (refine load_arow rfl 80 _ rfl (w.heap.size + 1) ws rfl HR.out 64 62 Tryd.underlying80 info64 hsl ?_)
            | (refine store_arow rfl 80 _ _ rfl w.heap.size (List.replicate 64 0) ws rfl rfl HS.out 64 info64 (by simp) hsl ?_; intro w' hw1 hw2 hw3))
          refine bodyPost_ret (v := .agg (ws.map uv).toArray) (results_cell_row rfl _ _ w.heap.size 80 _ (0, 0) _ rfl hw1 Tryd.underlying80 rfl (by rw [info64]; simp [hsl])) rfl ⟨by rw [HWS.out], hw2 _ _ (Nat.le_refl _) HB.out⟩
end Go.Proofs.YtkkiedmcpibnaaaDoor
