/- The document's Pad. -/
import Derived.Test.YtkkiedmcpibnaaaDoorShaMath
import Derived.Test.YtkkiedmcpibnaaaDoorMarkOne
import Derived.Test.YtkkiedmcpibnaaaDoorBuilder2
import Derived.Laws.AppendOwnNone
set_option maxRecDepth 100000
namespace Sh
theorem be8_drop (n : Nat) : ∀ j, j < 8 → (be8 n).drop (7 - j) = UInt8.ofNat (n / 256 ^ j % 256) :: (be8 n).drop (8 - j) := by
  intro j hj
  match j, hj with
  | 0, _ => simp [be8, List.range_succ]
  | 1, _ => simp [be8, List.range_succ]
  | 2, _ => simp [be8, List.range_succ]
  | 3, _ => simp [be8, List.range_succ]
  | 4, _ => simp [be8, List.range_succ]
  | 5, _ => simp [be8, List.range_succ]
  | 6, _ => simp [be8, List.range_succ]
  | 7, _ => simp [be8, List.range_succ]
  | j + 8, h => omega
def padB (s : List UInt8) (z : Nat) : List UInt8 := s ++ [128] ++ List.replicate z 0
theorem padB_len (s : List UInt8) (z : Nat) : (padB s z).length = s.length + 1 + z := by simp [padB]; omega
theorem padB_zero (s : List UInt8) : padB s 0 = s ++ [128] := by simp [padB]
theorem padB_succ (s : List UInt8) (z : Nat) : padB s (z + 1) = padB s z ++ [0] := by rw [padB, List.replicate_succ', ← List.append_assoc]; rfl
theorem pad_B (s : List UInt8) : pad s = padB s (zeros s.length) ++ be8 (8 * s.length) := by simp [pad, padB]
theorem ofN_b' (x : Nat) : (UInt8.ofNat (x % 256)).toNat = x % 256 := by rw [UInt8.toNat_ofNat']; omega
theorem be8_n (n : Nat) : (be8 n).length = 8 := by simp [be8]
end Sh
namespace Go.Proofs.YtkkiedmcpibnaaaDoor
open Go.RowKit
theorem info_byte1 : (Tryd.prog.info? 5).map (fun i => (i.zero, i.size, i.bytes)) = some (some (.int .u8 0), 1, 1) := by kernel_rfl
theorem one_new (w : World) (y : UInt8) (t : TypeId) : ∀ j u, ([y].map bv)[j]? = some u → (w.alloc (.cells #[bv y] t)).cell? ((⟨w.heap.size, 0, none⟩ : Addr).add j) = some u := new_cell _ _ rfl _ _
attribute [local go_sem] ByteArray.mk_append_mk

theorem cat_runS (x y : List UInt8) (h : ¬ (x.length + y.length > 9223372036854775807)) (W : World) : (Op.stringOp .add (⟨x.toArray⟩ : ByteArray) ⟨y.toArray⟩).run Tryd.prog W = .ok (tx (x ++ y)) W := by
  rw [run_string_add_sum (P := Tryd.prog) W _ _ (by simp [ByteArray.size]; omega), ByteArray.mk_append_mk]

set_option maxHeartbeats 2000000 in
theorem rpad (s : List UInt8) (hs : s.length ≤ 140737488351232) (w : World) :
    Calls Tryd.prog 36 #[tx s] w fun e w' => e = .returned (tx (Sh.pad s)) ∧ Below w.heap.size w w' := by
  obtain ⟨i0, hi, hz0, hz1, hz2⟩ := info_parts info_byte1
  obtain ⟨b0, w2, hrun, hm, hb2⟩ := MarkRow.made (P := Tryd.prog) w 9 67 5 s (by unfold maxLen; omega) Tryd.underlying9 Tryd.underlying67 Tryd.underlying5
  have HM := Lib.hid hm
  have HB2 := Lib.hid hb2
  have hsz2 := hb2.size
  have hm2 : MarkRow (w2.alloc (.cells #[.int .u8 128] 5)) w.heap.size 5 b0 s := hm.below ((Below.refl _ _).alloc (Nat.le_refl _) _)
  have HM2 := Lib.hid hm2
  clear hm hb2 hm2
  go_enter Tryd.func36, Tryd.ntmps36
  go_wp2_with (at_builtin; refine wpList_append_markS rfl _ _ 67 rfl w.heap.size 5 i0 Tryd.underlying67 hi hz0 hz1 hz2 _ _ [128] rfl HM2.out ⟨w2.heap.size, 0, none⟩ 1 1 rfl rfl ?c1 ?c2 ?c3 ?_)
  case c1 => exact one_new _ _ _
  case c2 => simp; omega
  case c3 => simp; omega
  intro v' w3 hm3 hg3
  have hlen : s.length + 1 ≤ 140737488351300 := by omega
  have hbw : Below w.heap.size w w3 := (HB2.out.alloc HB2.out.size _).grown hg3 (by have := HB2.out.size; simp; omega) (fun k hk => (HM2.out.lt k hk).1)
  have hsw : w.heap.size ≤ w3.heap.size := hbw.size
  have HM3 := Lib.hid hm3
  clear hm3 hg3 hrun HM HB2 HM2
  go_wp2_with fail
  go_loopw [3] (fun b wr => ∃ z : Nat, z ≤ Sh.zeros s.length ∧ MarkRow wr w.heap.size 5 b (Sh.padB s z) ∧ Below w.heap.size w wr) (fun b _ => Sh.zeros s.length + s.length + 1 - (match b with | .slice _ n _ => n | _ => 0))
  case atStart => exact ⟨0, by omega, by rw [Sh.padB_zero]; exact HM3.out, hbw⟩
  case round =>
    obtain ⟨z, hz, hmr, hbr⟩ := hrel
    have hzl : Sh.zeros s.length < 64 := by rw [Sh.zeros]; omega
    have hll : (Sh.padB s z).length = s.length + 1 + z := Sh.padB_len s z
    have hbs := hbr.size
    by_cases hlt : z < Sh.zeros s.length
    · have t1 : ((s.length + 1 + z : Nat) : Int) % 64 ≠ 56 := by rw [Sh.zeros] at hlt; omega
      have t2 : (((s.length + 1 + z : Nat) : Int) % 64 != 56) = true := by rw [bne_iff_ne]; exact t1
      have hm4 : MarkRow (wr.alloc (.cells #[.int .u8 0] 5)) w.heap.size 5 u3 (Sh.padB s z) := hmr.below ((Below.refl _ _).alloc (Nat.le_refl _) _)
      obtain ⟨g, cap, rfl, hcell⟩ := hmr.cell
      have HM4 := Lib.hid hm4
      have HBR := Lib.hid hbr
      have HLL := Lib.hid hll
      clear hmr hm4 hbr hcell t1
      simp only [hll]
      clear hll
      go_wp2_with (at_builtin; refine wpList_append_markS rfl _ _ 67 rfl w.heap.size 5 i0 Tryd.underlying67 hi hz0 hz1 hz2 _ _ [0] (by rw [HLL.out]; rfl) HM4.out ⟨wr.heap.size, 0, none⟩ 1 1 rfl rfl ?c1 ?c2 ?c3 ?_)
      case c1 => exact one_new _ _ _
      case c2 => rw [HLL.out]; simp; omega
      case c3 => simp; omega
      intro v4 w4 hm5 hg4
      have hb4 : Below w.heap.size w w4 := (HBR.out.alloc HBR.out.size _).grown hg4 (by have := HBR.out.size; simp; omega) (fun k hk => (HM4.out.lt k hk).1)
      have hm6 : MarkRow w4 w.heap.size 5 v4 (Sh.padB s (z + 1)) := by rw [Sh.padB_succ]; exact hm5
      obtain ⟨g5, cap5, rfl, _⟩ := hm6.cell
      have HM6 := Lib.hid hm6
      have HB4 := Lib.hid hb4
      clear hm5 hm6 hb4 hg4
      go_wp2
      go_roundw
      case rel => exact ⟨z + 1, hlt, HM6.out, HB4.out⟩
      case measure => simp [Sh.padB_len]; omega
    · obtain rfl : z = Sh.zeros s.length := by omega
      have t1 : ((s.length + 1 + Sh.zeros s.length : Nat) : Int) % 64 = 56 := by rw [Sh.zeros]; omega
      have t2 : (((s.length + 1 + Sh.zeros s.length : Nat) : Int) % 64 != 56) = false := by rw [bne_eq_false_iff_eq]; exact t1
      obtain ⟨g, cap, rfl, _⟩ := hmr.cell
      have HMR := Lib.hid hmr
      have HBR := Lib.hid hbr
      have HLL := Lib.hid hll
      have hu : IntKind.u64.wrap (s.length : Int) = (s.length : Int) := IntWalk.u64_in _ ⟨by omega, by omega⟩
      have hu2 : IntKind.u64.wrap ((s.length : Int) * 8) = (s.length : Int) * 8 := IntWalk.u64_in _ ⟨by omega, by omega⟩
      have hu3 : (s.length : Int) * 8 = ((8 * s.length : Nat) : Int) := by omega
      clear hmr hbr t1
      simp only [hll]
      clear hll hz
      go_wp2_with fail
      obtain ⟨N, hN⟩ : ∃ N, 8 * s.length = N := ⟨_, rfl⟩
      have hNl : N < 18446744073709551616 := by omega
      have hst : (Value.int .u64 (8 * (s.length : Int))) = .int .u64 ((N / 256 ^ 0 : Nat) : Int) := by rw [Nat.pow_zero, Nat.div_one, ← hN]; congr 1
      have HNN := Lib.hid hN
      have HSTT := Lib.hid hst
      have t3 : (((s.length : Int) + 1 + (Sh.zeros s.length : Int)) % 64 != 56) = false := by rw [bne_eq_false_iff_eq] at t2 ⊢; omega
      simp only [t3]
      clear t3
      clear hst hN hu hu2 hu3 t2
      have hd8 : (Sh.be8 N).drop 8 = [] := List.drop_of_length_le (by rw [Sh.be8_n]; omega)
      go_loopw [4, 5, 6] (fun n tl i wq => ∃ j : Nat, i = .int .i64 j ∧ j ≤ 8 ∧ n = .int .u64 ((N / 256 ^ j : Nat) : Int) ∧ wq.ownsRow w.heap.size 5 1 tl j (((Sh.be8 N).drop (8 - j)).map bv) ∧ MarkRow wq w.heap.size 5 (.slice (some ⟨g, 0, none⟩) (Sh.padB s (Sh.zeros s.length)).length cap) (Sh.padB s (Sh.zeros s.length)) ∧ Below w.heap.size w wq) (fun _ _ i _ => 8 - (intOf i).toNat)
      case atStart => exact ⟨0, rfl, by omega, HSTT.out, by rw [Nat.sub_zero, hd8]; exact World.ownsRow_nil _ _ _ _, HMR.out, HBR.out⟩
      case round =>
        obtain ⟨j, rfl, hj, rfl, hown, hmr, hbr⟩ := hrel
        have hbs2 := hbr.size
        by_cases hlt : j < 8
        · have hstep := Sh.be8_drop N j hlt
          have hy : (UInt8.ofNat (N / 256 ^ j % 256)).toNat = N / 256 ^ j % 256 := Sh.ofN_b' _
          have hnx : N / 256 ^ (j + 1) = N / 256 ^ j / 256 := by rw [Nat.pow_succ, Nat.div_div_eq_div_mul]
          have hxl : N / 256 ^ j < 18446744073709551616 := Nat.lt_of_le_of_lt (Nat.div_le_self _ _) hNl
          obtain ⟨x, hx⟩ : ∃ x, N / 256 ^ j = x := ⟨_, rfl⟩
          rw [hx] at hstep hy hnx hxl
          rw [hx]
          have hb1 : bv (UInt8.ofNat (x % 256)) = .int .u8 ((x : Int) % 256) := by rw [bv, hy]; simp
          have HST := Lib.hid hstep
          have HNX := Lib.hid hnx
          have HMR2 := Lib.hid hmr
          have HBR2 := Lib.hid hbr
          have HB1 := Lib.hid hb1
          have HO := Lib.hid hown
          clear hstep hnx hmr hbr hx hy hb1
          have hso : ∀ (v' : Value) (W : World), W.ownsRow w.heap.size 5 1 v' (1 + j) ([.int .u8 ((x : Int) % 256)] ++ ((Sh.be8 N).drop (8 - j)).map bv) → W.ownsRow w.heap.size 5 1 v' (j + 1) (((Sh.be8 N).drop (8 - (j + 1))).map bv) := by
            intro v' W h
            rw [show 8 - (j + 1) = 7 - j by omega, HST.out, List.map_cons, HB1.out, Nat.add_comm j 1]
            exact h
          have HSO := Lib.hid hso
          clear hso
          have hnew : (wr.alloc (.cells #[.int .u8 ((x : Int) % 256)] 5)).ownsRow w.heap.size 5 1 (.slice (some ⟨wr.heap.size, 0, none⟩) 1 1) 1 [.int .u8 ((x : Int) % 256)] :=
            ⟨rfl, .inr ⟨wr.heap.size, 1, #[.int .u8 ((x : Int) % 256)], rfl, hbs2, heap_alloc_new wr _, Nat.le_refl _, by unfold maxLen; omega, rfl, rfl⟩⟩
          have HNW := Lib.hid hnew
          clear hnew
          rcases hown.2 with ⟨rfl, rfl⟩ | ⟨g2, cap2, cur2, rfl, hg2, _, _, _, _, _⟩
          · go_wp2_with (at_builtin; refine wpList_append_own_none rfl _ _ 67 rfl w.heap.size 5 i0 1 Tryd.underlying67 hi _ _ _ rfl HNW.out rfl ?_)
            have hall := (Below.refl wr.heap.size wr).alloc (Nat.le_refl _) (.cells #[.int .u8 ((x : Int) % 256)] 5)
            go_wp2
            go_roundw
            case rel => exact ⟨0 + 1, rfl, by omega, by rw [HNX.out]; simp, HSO.out _ _ HNW.out, HMR2.out.below hall, HBR2.out.alloc hbs2 _⟩
            case measure => simp [intOf]
          · go_wp2_with (at_builtin; refine wpList_append_own _ rfl _ _ 67 rfl w.heap.size 5 i0 (.int .u8 0) 1 1 Tryd.underlying67 hi hz0 hz1 hz2 rfl (by decide) _ _ _ rfl HNW.out ⟨g2, 0, none⟩ j cap2 (((Sh.be8 N).drop (8 - j)).map bv) rfl HO.out.1 ?c1 ?c2 ?c3 ?c4 ?c5 ?_)
            case c1 => exact (HO.out.alloc _).cells rfl
            case c2 =>
              intro u hu
              obtain ⟨y, _, rfl⟩ := List.mem_map.1 hu
              rfl
            case c3 => unfold maxLen; omega
            case c4 => omega
            case c5 => simp; omega
            intro v4 w4 hown4 hg4 _
            have hall := (Below.refl wr.heap.size wr).alloc (Nat.le_refl _) (.cells #[.int .u8 ((x : Int) % 256)] 5)
            have hm4 := HMR2.out.below hall
            have hlt4 := (hm4.lt g rfl).2
            have HO4 := Lib.hid (HSO.out _ _ (by simpa using hown4))
            have hb4 : Below w.heap.size w w4 := (HBR2.out.alloc hbs2 _).grown hg4 (by simp; omega) (fun k hk => (HNW.out.lt k hk).1)
            have hm5 : MarkRow w4 w.heap.size 5 (.slice (some ⟨g, 0, none⟩) (Sh.padB s (Sh.zeros s.length)).length cap) (Sh.padB s (Sh.zeros s.length)) := by
              obtain ⟨g', cap', cur', fz', he, hr⟩ := hm4
              have hgg := (HMR2.out.lt g rfl).2
              cases he
              refine ⟨g, cap, cur', fz', rfl, hr.1, ?_, hr.2.2⟩
              rw [hg4.block g hlt4 (by simp [Value.ownBlock]; omega)]
              exact hr.2.1
            have HM5 := Lib.hid hm5
            have HB4 := Lib.hid hb4
            clear hown4 hg4 hm4 hm5 hb4 hall hlt4
            go_wp2
            go_roundw
            case rel => exact ⟨j + 1, by go_num, hlt, by rw [HNX.out]; simp, HO4.out, HM5.out, HB4.out⟩
            case measure => simp [intOf]; omega
        · obtain rfl : j = 8 := by omega
          rw [Nat.sub_self, List.drop_zero] at hown
          have hbl := Sh.be8_n N
          have hPB := Sh.pad_B s
          rw [HNN.out] at hPB
          have hpl := HLL.out
          rcases hown.2 with ⟨_, h8⟩ | ⟨g2, cap2, cur2, rfl, hg2, _, _, _, _, _⟩
          · omega
          have hcl := hown.cells rfl
          obtain ⟨_, _, hev, hcell⟩ := hmr.cell
          cases hev
          obtain ⟨P, hP⟩ : ∃ P, Sh.padB s (Sh.zeros s.length) = P := ⟨_, rfl⟩
          obtain ⟨T, hT⟩ : ∃ T, Sh.be8 N = T := ⟨_, rfl⟩
          rw [hP] at hcell hpl hPB
          rw [hT] at hcl hbl hPB
          have hconv := run_convert_bytes_arg (P := Tryd.prog) wr 67 5 Tryd.underlying67 Tryd.underlying5 g 0 _ cap _ (by simp) hcell 9 Tryd.underlying9
          have hcell2 : ∀ i, i < T.length → wr.cell? ⟨g2, 0 + i, none⟩ = some (.int .u8 ((T.map fun y => (y.toNat : Int)).getD i 0)) := by
            intro i hi
            have := hcl i (bv T[i]) (by simp [hi])
            have ha : (⟨g2, 0, none⟩ : Addr).add i = ⟨g2, 0 + i, none⟩ := by unfold Addr.add; split <;> simp_all
            rw [ha] at this
            rw [this]
            simp [bv, List.getD, hi]
          have hconv2 := run_convert_bytes_arg (P := Tryd.prog) wr 67 5 Tryd.underlying67 Tryd.underlying5 g2 0 _ cap2 _ (by simp) hcell2 9 Tryd.underlying9
          rw [strOfNums_bytes] at hconv hconv2
          rw [hbl] at hconv2
          have e1 := fun W => cat_runS P T (by omega) W
          have HF := Lib.hid hPB
          rw [hpl, hP] at *
          clear hcell hcell2 hcl hown hmr hPB
          go_wp2
          go_ret
          exact ⟨by rw [HF.out]; rfl, hbr⟩
end Go.Proofs.YtkkiedmcpibnaaaDoor
