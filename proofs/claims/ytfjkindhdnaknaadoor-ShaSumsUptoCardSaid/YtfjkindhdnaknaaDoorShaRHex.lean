/- The document's Hex. -/
import Derived.Test.YtfjkindhdnaknaaDoorShaRSum
import Derived.Test.YtfjkindhdnaknaaDoorShaHex
namespace Go.Proofs.YtfjkindhdnaknaaDoor
open Go.RowKit
attribute [local go_sem] byte_at

set_option maxHeartbeats 2000000 in
set_option maxRecDepth 100000 in
theorem rhex (s : List UInt8) (hs : s.length ≤ 70368744177000) (w : World) :
    Calls Tryd.prog 23 #[tx s] w fun e w' => e = .returned (tx (Sh.hex s)) ∧ Below w.heap.size w w' := by
  obtain ⟨i0, hi, hz0, hz1, hz2⟩ := info_parts info_byte1
  go_enter Tryd.func23, Tryd.ntmps23
  go_wp2_with fail
  go_loopw [4, 5] (fun ov i wr => ∃ j : Nat, i = .int .i64 j ∧ j ≤ s.length ∧ wr.ownsRow w.heap.size 5 1 ov (2 * j) ((Sh.hex (s.take j)).map bv) ∧ Below w.heap.size w wr) (fun _ i _ => s.length - (intOf i).toNat)
  case atStart => exact ⟨0, rfl, by omega, World.ownsRow_nil _ _ _ _, Below.refl _ _⟩
  case round =>
    obtain ⟨j, rfl, hj, hown, hbel⟩ := hrel
    by_cases hlt : j < s.length
    · have hst : Sh.hex (s.take (j + 1)) = Sh.hex (s.take j) ++ [Sh.sign (s[j].toNat / 16)] ++ [Sh.sign (s[j].toNat % 16)] := by
        rw [List.take_succ_eq_append_getElem hlt, Sh.hex_snoc]
      have hyl := s[j].toNat_lt
      have hj0 : (0 : Int) ≤ (j : Int) := by omega
      have hj1 : (j : Int) < (s.length : Int) := by omega
      obtain ⟨y, hy⟩ : ∃ y, s[j] = y := ⟨_, rfl⟩
      rw [hy] at hst hyl
      have d0 : (0 : Int) ≤ (y.toNat : Int) / 16 := by omega
      have d1 : (y.toNat : Int) / 16 < 16 := by omega
      have d2 : ((y.toNat : Int) / 16).toNat = y.toNat / 16 := by omega
      have m0 : (y.toNat : Int).tmod 16 = (y.toNat : Int) % 16 := Int.tmod_eq_emod_of_nonneg (by omega)
      have m1 : (0 : Int) ≤ (y.toNat : Int) % 16 := by omega
      have m2 : (y.toNat : Int) % 16 < 16 := by omega
      have m3 : ((y.toNat : Int) % 16).toNat = y.toNat % 16 := by omega
      have w0 : IntKind.u8.wrap ((y.toNat : Int) / 16) = (y.toNat : Int) / 16 := by rw [IntKind.wrap_u8']; omega
      have w1 : IntKind.u8.wrap ((y.toNat : Int) % 16) = (y.toNat : Int) % 16 := by rw [IntKind.wrap_u8']; omega
      have hd : y.toNat / 16 < 16 := by omega
      have hm : y.toNat % 16 < 16 := by omega
      have Q1 := Lib.hid (show ((Sh.sign (y.toNat / 16)).toNat : Int) = ([48, 49, 50, 51, 52, 53, 54, 55, 56, 57, 97, 98, 99, 100, 101, 102][y.toNat / 16]'(by simpa using hd) : UInt8).toNat by rw [← Sh.signs_at _ hd]; rfl)
      have Q2 := Lib.hid (show ((Sh.sign (y.toNat % 16)).toNat : Int) = ([48, 49, 50, 51, 52, 53, 54, 55, 56, 57, 97, 98, 99, 100, 101, 102][y.toNat % 16]'(by simpa using hm) : UInt8).toNat by rw [← Sh.signs_at _ hm]; rfl)
      have HST := Lib.hid hst
      have HOW := Lib.hid hown
      have HB6 := Lib.hid hbel
      have HOA := Lib.hid (show ((wr.alloc (.cells #[.int .u8 ((Sh.sign (y.toNat / 16)).toNat : Int), .int .u8 ((Sh.sign (y.toNat % 16)).toNat : Int)] 5)).drew).ownsRow w.heap.size 5 1 u4 (2 * j) ((Sh.hex (s.take j)).map bv) from hown.alloc (.cells #[.int .u8 ((Sh.sign (y.toNat / 16)).toNat : Int), .int .u8 ((Sh.sign (y.toNat % 16)).toNat : Int)] 5))
      have HNW := Lib.hid (new_cells wr [.int .u8 ((Sh.sign (y.toNat / 16)).toNat : Int), .int .u8 ((Sh.sign (y.toNat % 16)).toNat : Int)] 5)
      have HON := Lib.hid (show ∀ u ∈ ([.int .u8 ((Sh.sign (y.toNat / 16)).toNat : Int), .int .u8 ((Sh.sign (y.toNat % 16)).toNat : Int)] : List Value), u.oneCell' = true by intro u hu; simp at hu; rcases hu with rfl | rfl <;> rfl)
      have HSA := Lib.hid (show w.heap.size ≤ ((wr.alloc (.cells #[.int .u8 ((Sh.sign (y.toNat / 16)).toNat : Int), .int .u8 ((Sh.sign (y.toNat % 16)).toNat : Int)] 5)).drew).heap.size by show _ ≤ (wr.alloc _).heap.size; rw [World.size_alloc]; have := hbel.size; omega)
      have h63 : 2 * j + 2 ≤ maxLen := by unfold maxLen; omega
      have hby : (2 * j + 2) * 1 ≤ 140737488355328 := by omega
      clear hst hown hbel
      go_wp2_with fail
      refine wp_region_any (by kernel_rfl) ?_
      change wpAny _ _ _ _ _ _ _ (World.drew _)
      refine wpAny_take (i := 0) (v := ?_) rfl (by kernel_rfl) (by kernel_rfl) (by kernel_rfl) (fun _ _ _ h => h) (Or.inl ⟨by rfl, ?_⟩) ?_
      rotate_left
      focus (intro w; go_simp; try (with_reducible rfl))
      refine wpAny_take (i := 1) (v := ?_) rfl (by kernel_rfl) (by kernel_rfl) (by kernel_rfl) (fun _ _ _ h => h) (Or.inl ⟨by rfl, ?_⟩) ?_
      rotate_left
      focus (intro w; go_simp; try (with_reducible rfl))
      refine wpAny_take (i := 2) (v := ?_) rfl (by kernel_rfl) (by kernel_rfl) (by kernel_rfl) (fun _ _ _ h => h) (Or.inl ⟨by rfl, ?_⟩) ?_
      rotate_left
      focus (intro w; go_simp; try (with_reducible rfl))
      refine wpAny_take (i := 3) (v := ?_) rfl (by kernel_rfl) (by kernel_rfl) (by kernel_rfl) (fun _ _ _ h => h) (Or.inl ⟨by rfl, ?_⟩) ?_
      rotate_left
      focus (intro w; go_simp; try (with_reducible rfl))
      refine wpAny_take (i := 4) (v := ?_) rfl (by kernel_rfl) (by kernel_rfl) (by kernel_rfl) (fun _ _ _ h => h) (Or.inl ⟨by rfl, ?_⟩) ?_
      rotate_left
      focus (intro w; go_simp; try (with_reducible rfl))
      refine wpAny_take (i := 5) (v := ?_) rfl (by kernel_rfl) (by kernel_rfl) (by kernel_rfl) (fun _ _ _ h => h) (Or.inl ⟨by rfl, ?_⟩) ?_
      rotate_left
      focus (intro w; go_simp; try (with_reducible rfl))
      refine wpAny_take (i := 6) (v := ?_) rfl (by kernel_rfl) (by kernel_rfl) (by kernel_rfl) (fun _ _ _ h => h) (Or.inl ⟨by rfl, ?_⟩) ?_
      rotate_left
      focus (intro w; go_simp; try (with_reducible rfl))
      refine wpAny_take (i := 7) (v := ?_) rfl (by kernel_rfl) (by kernel_rfl) (by kernel_rfl) (fun _ _ _ h => h) (Or.inl ⟨by rfl, ?_⟩) ?_
      rotate_left
      focus (intro w; go_simp; try (with_reducible rfl))
      refine wpAny_take (i := 8) (v := ?_) rfl (by kernel_rfl) (by kernel_rfl) (by kernel_rfl) (fun _ _ _ h => h) (Or.inl ⟨by rfl, ?_⟩) ?_
      rotate_left
      focus (intro w; go_simp; try (with_reducible rfl))
      refine wpAny_take (i := 9) (v := ?_) rfl (by kernel_rfl) (by kernel_rfl) (by kernel_rfl) (fun _ _ _ h => h) (Or.inl ⟨by rfl, ?_⟩) ?_
      rotate_left
      focus (intro w; go_simp; try (with_reducible rfl))
      refine wpAny_take (i := 10) (v := ?_) rfl (by kernel_rfl) (by kernel_rfl) (by kernel_rfl) (fun _ _ _ h => h) (Or.inl ⟨by rfl, ?_⟩) ?_
      rotate_left
      focus (intro w; go_simp; try (with_reducible rfl))
      refine wpAny_take (i := 11) (v := ?_) rfl (by kernel_rfl) (by kernel_rfl) (by kernel_rfl) (fun _ _ _ h => h) (Or.inl ⟨by rfl, ?_⟩) ?_
      rotate_left
      focus (intro w; go_simp; try (with_reducible rfl))
      refine wpAny_take (i := 12) (v := ?_) rfl (by kernel_rfl) (by kernel_rfl) (by kernel_rfl) (fun _ _ _ h => h) (Or.inl ⟨by rfl, ?_⟩) ?_
      rotate_left
      focus (intro w; go_simp; try (with_reducible rfl))
      refine wpAny_ready (rs := [13]) (by kernel_rfl) (by simp) ?_
      refine AllReady.cons rfl (fun K hK => ?_) AllReady.nil
      go_simp
      rw [← Q1.out, ← Q2.out]
      refine hK _ _ ?_
      clear hK K
      refine wpAny_ready (rs := [14]) (by kernel_rfl) (by simp) ?_
      refine AllReady.cons rfl (fun K hK => ?_) AllReady.nil
      refine step_append_lies _ (by rfl) (.tmp 12) (.tmp 25) 39 (by rfl) w.heap.size 5 i0 (.int .u8 0) 1 1 Tryd.underlying39 hi hz0 hz1 hz2 rfl (by decide) u4 (2 * j) ((Sh.hex (s.take j)).map bv) (by rfl) HOA.out ⟨wr.heap.size, 0, none⟩ 2 2 [.int .u8 ((Sh.sign (y.toNat / 16)).toNat : Int), .int .u8 ((Sh.sign (y.toNat % 16)).toNat : Int)] (by rfl) (by rfl) HNW.out HON.out (by decide) h63 hby HSA.out _ (by rfl) ?_
      intro v4 c4 w4 hown hg _ _
      try go_simp
      refine hK _ _ ?_
      clear hK K
      refine wpAny_take (i := 15) (v := ?_) rfl (by kernel_rfl) (by kernel_rfl) (by kernel_rfl) (fun _ _ _ h => h) (Or.inl ⟨by rfl, ?_⟩) ?_
      rotate_left
      focus (intro w; go_simp; try (with_reducible rfl))
      refine wpAny_done (by kernel_rfl) ?_ _
      have hb7 : Below w.heap.size w w4 := (HB6.out.alloc HB6.out.size (.cells #[.int .u8 ((Sh.sign (y.toNat / 16)).toNat : Int), .int .u8 ((Sh.sign (y.toNat % 16)).toNat : Int)] 5)).drew.grown hg HSA.out (fun k hk => (HOW.out.lt k hk).1)
      have ho7 : w4.ownsRow w.heap.size 5 1 (.slice (some ⟨v4, 0, none⟩) (2 * j + 2) c4) (2 * (j + 1)) ((Sh.hex (s.take (j + 1))).map bv) := by
        rw [HST.out, List.append_assoc, List.map_append, show 2 * (j + 1) = 2 * j + 2 by omega]
        exact hown
      have HB7 := Lib.hid hb7
      have HO7 := Lib.hid ho7
      clear hb7 ho7 hown hg d0 d1 d2 m0 m1 m2 m3 w0 w1
      go_wp2
      go_roundw
      case rel => exact ⟨j + 1, by go_num, hlt, HO7.out, HB7.out⟩
      case measure => simp [intOf]; omega
    · obtain rfl : j = s.length := by omega
      rw [List.take_length] at hown
      have hhl := Sh.hex_len s
      obtain ⟨D, hD⟩ : ∃ D, Sh.hex s = D := ⟨_, rfl⟩
      rw [hD] at hown hhl
      have HF := Lib.hid hD
      clear hD
      rcases hown.2 with ⟨rfl, h8⟩ | ⟨g2, cap2, cur2, rfl, hg2, _, _, _, _, _⟩
      · obtain rfl : D = [] := List.length_eq_zero_iff.1 (by omega)
        clear hown hhl
        have hconv0 : (convert 39 9 (.slice none 0 0)).run Tryd.prog wr = .ok (tx []) wr := by kernel_rfl
        go_wp2
        go_ret
        exact ⟨by rw [HF.out]; rfl, hbel⟩
      · have hcl := hown.cells rfl
        have hcell2 : ∀ i, i < D.length → wr.cell? ⟨g2, 0 + i, none⟩ = some (.int .u8 ((D.map fun y => (y.toNat : Int)).getD i 0)) := by
          intro i hi
          have := hcl i (bv D[i]) (by simp [hi])
          have ha : (⟨g2, 0, none⟩ : Addr).add i = ⟨g2, 0 + i, none⟩ := by unfold Addr.add; split <;> simp_all
          rw [ha] at this
          rw [this]
          simp [bv, List.getD, hi]
        have hconv2 := run_convert_bytes_arg (P := Tryd.prog) wr 39 5 Tryd.underlying39 Tryd.underlying5 g2 0 _ cap2 _ (by simp) hcell2 9 Tryd.underlying9
        rw [strOfNums_bytes, hhl] at hconv2
        clear hcell2 hcl hown hhl
        go_wp2
        go_ret
        exact ⟨by rw [HF.out]; rfl, hbel⟩
end Go.Proofs.YtfjkindhdnaknaaDoor
