/- PostCut: the walk. -/
import Derived.Test.YtbkpekpajeaacaaPostM
import Derived.Test.YtbkpekpajeaacaaGDig
namespace Go.Proofs.Ytbkpekpajeaacaa
open Go.RowKit Go.ChangeShapes Go.WideShapes Go.ChangeAt
set_option maxRecDepth 100000
attribute [local go_sem] ByteArray.mk_append_mk
attribute [local go_sem] ba_take
theorem pTakeSay_eq {s : List UInt8} {R : Po.S × Nat} (h : Po.takeSay s = R) (hs : s.length ≤ 140737488351232) (w : World) : Calls Try.prog 25 #[tx s] w fun e w' => e = .returned (.tuple #[sayV R.1, .int .i64 R.2]) ∧ Below w.heap.size w w' := h ▸ pTakeSay s hs w
theorem pTakeBallot_eq {s : List UInt8} {R : (Int × Int × List UInt8) × Nat} (h : Po.takeBallot s = R) (hs : s.length ≤ 140737488351232) (w : World) : Calls Try.prog 27 #[tx s] w fun e w' => e = .returned (.tuple #[balV R.1.1 R.1.2.1 R.1.2.2, .int .i64 R.2]) ∧ Below w.heap.size w w' := h ▸ pTakeBallot s hs w

set_option maxHeartbeats 8000000 in
theorem postCut_core (s : Po.S) (cut : Int) (W : World) :
    Calls Try.prog 7 #[sayV s, .int .i64 cut] W fun e W' => e = .returned (.bool true) ∧ Below W.heap.size W W' := by
  obtain ⟨sa, sr, sv, d⟩ := s
  obtain ⟨⟨a, e1⟩, ha⟩ : ∃ R, Po.sayR (sa, sr, sv, d) = R := ⟨_, rfl⟩
  obtain ⟨⟨b, e2⟩, hb⟩ : ∃ R, Po.ballotR sa sr d = R := ⟨_, rfl⟩
  have hal := Po.say_len (sa, sr, sv, d)
  have hbl := Po.ballot_len sa sr d
  rw [ha] at hal
  rw [hb] at hbl
  simp only [] at hal hbl
  have H1 := Lib.hid (fun W => psay_eq ha W)
  have H2 := Lib.hid (fun W => pballot_eq hb W)
  have HA := Lib.hid ha
  have HB := Lib.hid hb
  have A0 := Lib.hid (Blk.new W 30 [.int .i64 sa, .int .i64 sr, .int .i64 sv, tx d])
  have G0 := Lib.hid (show Below W.heap.size W (W.alloc (.cells #[.int .i64 sa, .int .i64 sr, .int .i64 sv, tx d] 30)) from (Below.refl _ _).alloc (Nat.le_refl _) _)
  clear ha hb
  by_cases z1 : e1 = 0
  · subst z1
    by_cases y1 : 0 ≤ cut ∧ cut < (a.length : Int)
    · have x11 := decide_eq_true y1.1
      have x12 := decide_eq_true y1.2
      obtain ⟨⟨⟨u11_0, u11_1, u11_2, u11_3⟩, r11⟩, R11⟩ : ∃ R, Po.takeSay (a.take cut.toNat) = R := ⟨_, rfl⟩
      obtain ⟨⟨⟨u12_0, u12_1, u12_2, u12_3⟩, r12⟩, R12⟩ : ∃ R, Po.takeSay (a ++ [120]) = R := ⟨_, rfl⟩
      have N11 := Po.say_cut (c := cut.toNat) HA.out (by omega)
      have N12 := Po.say_more (b := 120) HA.out
      rw [R11] at N11
      rw [R12] at N12
      simp only [] at N11 N12
      subst N11 N12
      have T11 := Lib.hid (fun W => pTakeSay_eq R11 (by rw [List.length_take]; omega) W)
      have T12 := Lib.hid (fun W => pTakeSay_eq R12 (by rw [List.length_append, List.length_singleton]; omega) W)
      have C1 := fun W => cat_run a [120] (by rw [List.length_singleton]; omega) W
      clear R11 R12
      by_cases z2 : e2 = 0
      · subst z2
        by_cases y2 : 0 ≤ cut ∧ cut < (b.length : Int)
        · have x21 := decide_eq_true y2.1
          have x22 := decide_eq_true y2.2
          obtain ⟨⟨⟨u21_0, u21_1, u21_2⟩, r21⟩, R21⟩ : ∃ R, Po.takeBallot (b.take cut.toNat) = R := ⟨_, rfl⟩
          obtain ⟨⟨⟨u22_0, u22_1, u22_2⟩, r22⟩, R22⟩ : ∃ R, Po.takeBallot (b ++ [120]) = R := ⟨_, rfl⟩
          have N21 := Po.ballot_cut (c := cut.toNat) HB.out (by omega)
          have N22 := Po.ballot_more (b := 120) HB.out
          rw [R21] at N21
          rw [R22] at N22
          simp only [] at N21 N22
          subst N21 N22
          have T21 := Lib.hid (fun W => pTakeBallot_eq R21 (by rw [List.length_take]; omega) W)
          have T22 := Lib.hid (fun W => pTakeBallot_eq R22 (by rw [List.length_append, List.length_singleton]; omega) W)
          have C2 := fun W => cat_run b [120] (by rw [List.length_singleton]; omega) W
          clear R21 R22
          go_enter Try.func7, Try.ntmps7
          go_wp2_with fail
          refine (postShown _).mono ?_
          rintro e w1 ⟨rfl, g1⟩
          have A1 := Lib.hid (A0.out.kept g1)
          have G1 := Lib.hid (G0.out.trans (g1.mono (by simp)))
          clear g1
          have ac0 := A1.out.cell 0 rfl
          have ac1 := A1.out.cell 1 rfl
          have ac2 := A1.out.cell 2 rfl
          have ac3 := A1.out.cell 3 rfl
          go_wp2_with fail
          refine (H1.out _).mono ?_
          rintro e w2 ⟨rfl, g2⟩
          have A2 := Lib.hid (A1.out.kept g2)
          have G2 := Lib.hid (grow_trans G1.out g2)
          clear g2
          clear ac0 ac1 ac2 ac3
          have ac0 := A2.out.cell 0 rfl
          have ac1 := A2.out.cell 1 rfl
          have ac2 := A2.out.cell 2 rfl
          have ac3 := A2.out.cell 3 rfl
          go_wp2_with fail
          refine (H2.out _).mono ?_
          rintro e w3 ⟨rfl, g3⟩
          have A3 := Lib.hid (A2.out.kept g3)
          have G3 := Lib.hid (grow_trans G2.out g3)
          clear g3
          clear ac0 ac1 ac2 ac3
          go_wp2_with fail
          refine (T11.out _).mono ?_
          rintro e w4 ⟨rfl, g4⟩
          have G4 := Lib.hid (grow_trans G3.out (g4.trans (((Below.refl _ _).alloc (Nat.le_refl _) (.cells #[.int .i64 u11_0, .int .i64 u11_1, .int .i64 u11_2, tx u11_3] 30)).mono g4.size)))
          clear g4
          go_wp2_with fail
          refine (T12.out _).mono ?_
          rintro e w5 ⟨rfl, g5⟩
          have G5 := Lib.hid (grow_trans G4.out (g5.trans (((Below.refl _ _).alloc (Nat.le_refl _) (.cells #[.int .i64 u12_0, .int .i64 u12_1, .int .i64 u12_2, tx u12_3] 30)).mono g5.size)))
          clear g5
          go_wp2_with fail
          refine (T21.out _).mono ?_
          rintro e w6 ⟨rfl, g6⟩
          have G6 := Lib.hid (grow_trans G5.out (g6.trans (((Below.refl _ _).alloc (Nat.le_refl _) (.cells #[.int .i64 u21_0, .int .i64 u21_1, tx u21_2] 47)).mono g6.size)))
          clear g6
          go_wp2_with fail
          refine (T22.out _).mono ?_
          rintro e w7 ⟨rfl, g7⟩
          have G7 := Lib.hid (grow_trans G6.out (g7.trans (((Below.refl _ _).alloc (Nat.le_refl _) (.cells #[.int .i64 u22_0, .int .i64 u22_1, tx u22_2] 47)).mono g7.size)))
          clear g7
          go_wp2_with fail
          go_ret
          exact ⟨rfl, G7.out⟩
        · by_cases x20 : 0 ≤ cut
          · have x21 := decide_eq_true x20
            have x22 : decide (cut < (b.length : Int)) = false := decide_eq_false (fun h => y2 ⟨x20, h⟩)
            go_enter Try.func7, Try.ntmps7
            go_wp2_with fail
            refine (postShown _).mono ?_
            rintro e w1 ⟨rfl, g1⟩
            have A1 := Lib.hid (A0.out.kept g1)
            have G1 := Lib.hid (G0.out.trans (g1.mono (by simp)))
            clear g1
            have ac0 := A1.out.cell 0 rfl
            have ac1 := A1.out.cell 1 rfl
            have ac2 := A1.out.cell 2 rfl
            have ac3 := A1.out.cell 3 rfl
            go_wp2_with fail
            refine (H1.out _).mono ?_
            rintro e w2 ⟨rfl, g2⟩
            have A2 := Lib.hid (A1.out.kept g2)
            have G2 := Lib.hid (grow_trans G1.out g2)
            clear g2
            clear ac0 ac1 ac2 ac3
            have ac0 := A2.out.cell 0 rfl
            have ac1 := A2.out.cell 1 rfl
            have ac2 := A2.out.cell 2 rfl
            have ac3 := A2.out.cell 3 rfl
            go_wp2_with fail
            refine (H2.out _).mono ?_
            rintro e w3 ⟨rfl, g3⟩
            have A3 := Lib.hid (A2.out.kept g3)
            have G3 := Lib.hid (grow_trans G2.out g3)
            clear g3
            clear ac0 ac1 ac2 ac3
            go_wp2_with fail
            refine (T11.out _).mono ?_
            rintro e w4 ⟨rfl, g4⟩
            have G4 := Lib.hid (grow_trans G3.out (g4.trans (((Below.refl _ _).alloc (Nat.le_refl _) (.cells #[.int .i64 u11_0, .int .i64 u11_1, .int .i64 u11_2, tx u11_3] 30)).mono g4.size)))
            clear g4
            go_wp2_with fail
            refine (T12.out _).mono ?_
            rintro e w5 ⟨rfl, g5⟩
            have G5 := Lib.hid (grow_trans G4.out (g5.trans (((Below.refl _ _).alloc (Nat.le_refl _) (.cells #[.int .i64 u12_0, .int .i64 u12_1, .int .i64 u12_2, tx u12_3] 30)).mono g5.size)))
            clear g5
            go_wp2_with fail
            go_ret
            exact ⟨rfl, G5.out⟩
          · have x21 : decide (0 ≤ cut) = false := decide_eq_false x20
            omega
      · have x21 : ((e2 : Int) == 0) = false := by rw [beq_eq_false_iff_ne]; omega
        go_enter Try.func7, Try.ntmps7
        go_wp2_with fail
        refine (postShown _).mono ?_
        rintro e w1 ⟨rfl, g1⟩
        have A1 := Lib.hid (A0.out.kept g1)
        have G1 := Lib.hid (G0.out.trans (g1.mono (by simp)))
        clear g1
        have ac0 := A1.out.cell 0 rfl
        have ac1 := A1.out.cell 1 rfl
        have ac2 := A1.out.cell 2 rfl
        have ac3 := A1.out.cell 3 rfl
        go_wp2_with fail
        refine (H1.out _).mono ?_
        rintro e w2 ⟨rfl, g2⟩
        have A2 := Lib.hid (A1.out.kept g2)
        have G2 := Lib.hid (grow_trans G1.out g2)
        clear g2
        clear ac0 ac1 ac2 ac3
        have ac0 := A2.out.cell 0 rfl
        have ac1 := A2.out.cell 1 rfl
        have ac2 := A2.out.cell 2 rfl
        have ac3 := A2.out.cell 3 rfl
        go_wp2_with fail
        refine (H2.out _).mono ?_
        rintro e w3 ⟨rfl, g3⟩
        have A3 := Lib.hid (A2.out.kept g3)
        have G3 := Lib.hid (grow_trans G2.out g3)
        clear g3
        clear ac0 ac1 ac2 ac3
        go_wp2_with fail
        refine (T11.out _).mono ?_
        rintro e w4 ⟨rfl, g4⟩
        have G4 := Lib.hid (grow_trans G3.out (g4.trans (((Below.refl _ _).alloc (Nat.le_refl _) (.cells #[.int .i64 u11_0, .int .i64 u11_1, .int .i64 u11_2, tx u11_3] 30)).mono g4.size)))
        clear g4
        go_wp2_with fail
        refine (T12.out _).mono ?_
        rintro e w5 ⟨rfl, g5⟩
        have G5 := Lib.hid (grow_trans G4.out (g5.trans (((Below.refl _ _).alloc (Nat.le_refl _) (.cells #[.int .i64 u12_0, .int .i64 u12_1, .int .i64 u12_2, tx u12_3] 30)).mono g5.size)))
        clear g5
        go_wp2_with fail
        go_ret
        exact ⟨rfl, G5.out⟩
    · by_cases x10 : 0 ≤ cut
      · have x11 := decide_eq_true x10
        have x12 : decide (cut < (a.length : Int)) = false := decide_eq_false (fun h => y1 ⟨x10, h⟩)
        by_cases z2 : e2 = 0
        · subst z2
          by_cases y2 : 0 ≤ cut ∧ cut < (b.length : Int)
          · have x21 := decide_eq_true y2.1
            have x22 := decide_eq_true y2.2
            obtain ⟨⟨⟨u21_0, u21_1, u21_2⟩, r21⟩, R21⟩ : ∃ R, Po.takeBallot (b.take cut.toNat) = R := ⟨_, rfl⟩
            obtain ⟨⟨⟨u22_0, u22_1, u22_2⟩, r22⟩, R22⟩ : ∃ R, Po.takeBallot (b ++ [120]) = R := ⟨_, rfl⟩
            have N21 := Po.ballot_cut (c := cut.toNat) HB.out (by omega)
            have N22 := Po.ballot_more (b := 120) HB.out
            rw [R21] at N21
            rw [R22] at N22
            simp only [] at N21 N22
            subst N21 N22
            have T21 := Lib.hid (fun W => pTakeBallot_eq R21 (by rw [List.length_take]; omega) W)
            have T22 := Lib.hid (fun W => pTakeBallot_eq R22 (by rw [List.length_append, List.length_singleton]; omega) W)
            have C2 := fun W => cat_run b [120] (by rw [List.length_singleton]; omega) W
            clear R21 R22
            go_enter Try.func7, Try.ntmps7
            go_wp2_with fail
            refine (postShown _).mono ?_
            rintro e w1 ⟨rfl, g1⟩
            have A1 := Lib.hid (A0.out.kept g1)
            have G1 := Lib.hid (G0.out.trans (g1.mono (by simp)))
            clear g1
            have ac0 := A1.out.cell 0 rfl
            have ac1 := A1.out.cell 1 rfl
            have ac2 := A1.out.cell 2 rfl
            have ac3 := A1.out.cell 3 rfl
            go_wp2_with fail
            refine (H1.out _).mono ?_
            rintro e w2 ⟨rfl, g2⟩
            have A2 := Lib.hid (A1.out.kept g2)
            have G2 := Lib.hid (grow_trans G1.out g2)
            clear g2
            clear ac0 ac1 ac2 ac3
            have ac0 := A2.out.cell 0 rfl
            have ac1 := A2.out.cell 1 rfl
            have ac2 := A2.out.cell 2 rfl
            have ac3 := A2.out.cell 3 rfl
            go_wp2_with fail
            refine (H2.out _).mono ?_
            rintro e w3 ⟨rfl, g3⟩
            have A3 := Lib.hid (A2.out.kept g3)
            have G3 := Lib.hid (grow_trans G2.out g3)
            clear g3
            clear ac0 ac1 ac2 ac3
            go_wp2_with fail
            refine (T21.out _).mono ?_
            rintro e w4 ⟨rfl, g4⟩
            have G4 := Lib.hid (grow_trans G3.out (g4.trans (((Below.refl _ _).alloc (Nat.le_refl _) (.cells #[.int .i64 u21_0, .int .i64 u21_1, tx u21_2] 47)).mono g4.size)))
            clear g4
            go_wp2_with fail
            refine (T22.out _).mono ?_
            rintro e w5 ⟨rfl, g5⟩
            have G5 := Lib.hid (grow_trans G4.out (g5.trans (((Below.refl _ _).alloc (Nat.le_refl _) (.cells #[.int .i64 u22_0, .int .i64 u22_1, tx u22_2] 47)).mono g5.size)))
            clear g5
            go_wp2_with fail
            go_ret
            exact ⟨rfl, G5.out⟩
          · by_cases x20 : 0 ≤ cut
            · have x21 := decide_eq_true x20
              have x22 : decide (cut < (b.length : Int)) = false := decide_eq_false (fun h => y2 ⟨x20, h⟩)
              go_enter Try.func7, Try.ntmps7
              go_wp2_with fail
              refine (postShown _).mono ?_
              rintro e w1 ⟨rfl, g1⟩
              have A1 := Lib.hid (A0.out.kept g1)
              have G1 := Lib.hid (G0.out.trans (g1.mono (by simp)))
              clear g1
              have ac0 := A1.out.cell 0 rfl
              have ac1 := A1.out.cell 1 rfl
              have ac2 := A1.out.cell 2 rfl
              have ac3 := A1.out.cell 3 rfl
              go_wp2_with fail
              refine (H1.out _).mono ?_
              rintro e w2 ⟨rfl, g2⟩
              have A2 := Lib.hid (A1.out.kept g2)
              have G2 := Lib.hid (grow_trans G1.out g2)
              clear g2
              clear ac0 ac1 ac2 ac3
              have ac0 := A2.out.cell 0 rfl
              have ac1 := A2.out.cell 1 rfl
              have ac2 := A2.out.cell 2 rfl
              have ac3 := A2.out.cell 3 rfl
              go_wp2_with fail
              refine (H2.out _).mono ?_
              rintro e w3 ⟨rfl, g3⟩
              have A3 := Lib.hid (A2.out.kept g3)
              have G3 := Lib.hid (grow_trans G2.out g3)
              clear g3
              clear ac0 ac1 ac2 ac3
              go_wp2_with fail
              go_ret
              exact ⟨rfl, G3.out⟩
            · have x21 : decide (0 ≤ cut) = false := decide_eq_false x20
              omega
        · have x21 : ((e2 : Int) == 0) = false := by rw [beq_eq_false_iff_ne]; omega
          go_enter Try.func7, Try.ntmps7
          go_wp2_with fail
          refine (postShown _).mono ?_
          rintro e w1 ⟨rfl, g1⟩
          have A1 := Lib.hid (A0.out.kept g1)
          have G1 := Lib.hid (G0.out.trans (g1.mono (by simp)))
          clear g1
          have ac0 := A1.out.cell 0 rfl
          have ac1 := A1.out.cell 1 rfl
          have ac2 := A1.out.cell 2 rfl
          have ac3 := A1.out.cell 3 rfl
          go_wp2_with fail
          refine (H1.out _).mono ?_
          rintro e w2 ⟨rfl, g2⟩
          have A2 := Lib.hid (A1.out.kept g2)
          have G2 := Lib.hid (grow_trans G1.out g2)
          clear g2
          clear ac0 ac1 ac2 ac3
          have ac0 := A2.out.cell 0 rfl
          have ac1 := A2.out.cell 1 rfl
          have ac2 := A2.out.cell 2 rfl
          have ac3 := A2.out.cell 3 rfl
          go_wp2_with fail
          refine (H2.out _).mono ?_
          rintro e w3 ⟨rfl, g3⟩
          have A3 := Lib.hid (A2.out.kept g3)
          have G3 := Lib.hid (grow_trans G2.out g3)
          clear g3
          clear ac0 ac1 ac2 ac3
          go_wp2_with fail
          go_ret
          exact ⟨rfl, G3.out⟩
      · have x11 : decide (0 ≤ cut) = false := decide_eq_false x10
        by_cases z2 : e2 = 0
        · subst z2
          by_cases y2 : 0 ≤ cut ∧ cut < (b.length : Int)
          · have x21 := decide_eq_true y2.1
            have x22 := decide_eq_true y2.2
            obtain ⟨⟨⟨u21_0, u21_1, u21_2⟩, r21⟩, R21⟩ : ∃ R, Po.takeBallot (b.take cut.toNat) = R := ⟨_, rfl⟩
            obtain ⟨⟨⟨u22_0, u22_1, u22_2⟩, r22⟩, R22⟩ : ∃ R, Po.takeBallot (b ++ [120]) = R := ⟨_, rfl⟩
            have N21 := Po.ballot_cut (c := cut.toNat) HB.out (by omega)
            have N22 := Po.ballot_more (b := 120) HB.out
            rw [R21] at N21
            rw [R22] at N22
            simp only [] at N21 N22
            subst N21 N22
            have T21 := Lib.hid (fun W => pTakeBallot_eq R21 (by rw [List.length_take]; omega) W)
            have T22 := Lib.hid (fun W => pTakeBallot_eq R22 (by rw [List.length_append, List.length_singleton]; omega) W)
            have C2 := fun W => cat_run b [120] (by rw [List.length_singleton]; omega) W
            clear R21 R22
            omega
          · by_cases x20 : 0 ≤ cut
            · have x21 := decide_eq_true x20
              have x22 : decide (cut < (b.length : Int)) = false := decide_eq_false (fun h => y2 ⟨x20, h⟩)
              omega
            · have x21 : decide (0 ≤ cut) = false := decide_eq_false x20
              go_enter Try.func7, Try.ntmps7
              go_wp2_with fail
              refine (postShown _).mono ?_
              rintro e w1 ⟨rfl, g1⟩
              have A1 := Lib.hid (A0.out.kept g1)
              have G1 := Lib.hid (G0.out.trans (g1.mono (by simp)))
              clear g1
              have ac0 := A1.out.cell 0 rfl
              have ac1 := A1.out.cell 1 rfl
              have ac2 := A1.out.cell 2 rfl
              have ac3 := A1.out.cell 3 rfl
              go_wp2_with fail
              refine (H1.out _).mono ?_
              rintro e w2 ⟨rfl, g2⟩
              have A2 := Lib.hid (A1.out.kept g2)
              have G2 := Lib.hid (grow_trans G1.out g2)
              clear g2
              clear ac0 ac1 ac2 ac3
              have ac0 := A2.out.cell 0 rfl
              have ac1 := A2.out.cell 1 rfl
              have ac2 := A2.out.cell 2 rfl
              have ac3 := A2.out.cell 3 rfl
              go_wp2_with fail
              refine (H2.out _).mono ?_
              rintro e w3 ⟨rfl, g3⟩
              have A3 := Lib.hid (A2.out.kept g3)
              have G3 := Lib.hid (grow_trans G2.out g3)
              clear g3
              clear ac0 ac1 ac2 ac3
              go_wp2_with fail
              go_ret
              exact ⟨rfl, G3.out⟩
        · have x21 : ((e2 : Int) == 0) = false := by rw [beq_eq_false_iff_ne]; omega
          go_enter Try.func7, Try.ntmps7
          go_wp2_with fail
          refine (postShown _).mono ?_
          rintro e w1 ⟨rfl, g1⟩
          have A1 := Lib.hid (A0.out.kept g1)
          have G1 := Lib.hid (G0.out.trans (g1.mono (by simp)))
          clear g1
          have ac0 := A1.out.cell 0 rfl
          have ac1 := A1.out.cell 1 rfl
          have ac2 := A1.out.cell 2 rfl
          have ac3 := A1.out.cell 3 rfl
          go_wp2_with fail
          refine (H1.out _).mono ?_
          rintro e w2 ⟨rfl, g2⟩
          have A2 := Lib.hid (A1.out.kept g2)
          have G2 := Lib.hid (grow_trans G1.out g2)
          clear g2
          clear ac0 ac1 ac2 ac3
          have ac0 := A2.out.cell 0 rfl
          have ac1 := A2.out.cell 1 rfl
          have ac2 := A2.out.cell 2 rfl
          have ac3 := A2.out.cell 3 rfl
          go_wp2_with fail
          refine (H2.out _).mono ?_
          rintro e w3 ⟨rfl, g3⟩
          have A3 := Lib.hid (A2.out.kept g3)
          have G3 := Lib.hid (grow_trans G2.out g3)
          clear g3
          clear ac0 ac1 ac2 ac3
          go_wp2_with fail
          go_ret
          exact ⟨rfl, G3.out⟩
  · have x11 : ((e1 : Int) == 0) = false := by rw [beq_eq_false_iff_ne]; omega
    by_cases z2 : e2 = 0
    · subst z2
      by_cases y2 : 0 ≤ cut ∧ cut < (b.length : Int)
      · have x21 := decide_eq_true y2.1
        have x22 := decide_eq_true y2.2
        obtain ⟨⟨⟨u21_0, u21_1, u21_2⟩, r21⟩, R21⟩ : ∃ R, Po.takeBallot (b.take cut.toNat) = R := ⟨_, rfl⟩
        obtain ⟨⟨⟨u22_0, u22_1, u22_2⟩, r22⟩, R22⟩ : ∃ R, Po.takeBallot (b ++ [120]) = R := ⟨_, rfl⟩
        have N21 := Po.ballot_cut (c := cut.toNat) HB.out (by omega)
        have N22 := Po.ballot_more (b := 120) HB.out
        rw [R21] at N21
        rw [R22] at N22
        simp only [] at N21 N22
        subst N21 N22
        have T21 := Lib.hid (fun W => pTakeBallot_eq R21 (by rw [List.length_take]; omega) W)
        have T22 := Lib.hid (fun W => pTakeBallot_eq R22 (by rw [List.length_append, List.length_singleton]; omega) W)
        have C2 := fun W => cat_run b [120] (by rw [List.length_singleton]; omega) W
        clear R21 R22
        go_enter Try.func7, Try.ntmps7
        go_wp2_with fail
        refine (postShown _).mono ?_
        rintro e w1 ⟨rfl, g1⟩
        have A1 := Lib.hid (A0.out.kept g1)
        have G1 := Lib.hid (G0.out.trans (g1.mono (by simp)))
        clear g1
        have ac0 := A1.out.cell 0 rfl
        have ac1 := A1.out.cell 1 rfl
        have ac2 := A1.out.cell 2 rfl
        have ac3 := A1.out.cell 3 rfl
        go_wp2_with fail
        refine (H1.out _).mono ?_
        rintro e w2 ⟨rfl, g2⟩
        have A2 := Lib.hid (A1.out.kept g2)
        have G2 := Lib.hid (grow_trans G1.out g2)
        clear g2
        clear ac0 ac1 ac2 ac3
        have ac0 := A2.out.cell 0 rfl
        have ac1 := A2.out.cell 1 rfl
        have ac2 := A2.out.cell 2 rfl
        have ac3 := A2.out.cell 3 rfl
        go_wp2_with fail
        refine (H2.out _).mono ?_
        rintro e w3 ⟨rfl, g3⟩
        have A3 := Lib.hid (A2.out.kept g3)
        have G3 := Lib.hid (grow_trans G2.out g3)
        clear g3
        clear ac0 ac1 ac2 ac3
        go_wp2_with fail
        refine (T21.out _).mono ?_
        rintro e w4 ⟨rfl, g4⟩
        have G4 := Lib.hid (grow_trans G3.out (g4.trans (((Below.refl _ _).alloc (Nat.le_refl _) (.cells #[.int .i64 u21_0, .int .i64 u21_1, tx u21_2] 47)).mono g4.size)))
        clear g4
        go_wp2_with fail
        refine (T22.out _).mono ?_
        rintro e w5 ⟨rfl, g5⟩
        have G5 := Lib.hid (grow_trans G4.out (g5.trans (((Below.refl _ _).alloc (Nat.le_refl _) (.cells #[.int .i64 u22_0, .int .i64 u22_1, tx u22_2] 47)).mono g5.size)))
        clear g5
        go_wp2_with fail
        go_ret
        exact ⟨rfl, G5.out⟩
      · by_cases x20 : 0 ≤ cut
        · have x21 := decide_eq_true x20
          have x22 : decide (cut < (b.length : Int)) = false := decide_eq_false (fun h => y2 ⟨x20, h⟩)
          go_enter Try.func7, Try.ntmps7
          go_wp2_with fail
          refine (postShown _).mono ?_
          rintro e w1 ⟨rfl, g1⟩
          have A1 := Lib.hid (A0.out.kept g1)
          have G1 := Lib.hid (G0.out.trans (g1.mono (by simp)))
          clear g1
          have ac0 := A1.out.cell 0 rfl
          have ac1 := A1.out.cell 1 rfl
          have ac2 := A1.out.cell 2 rfl
          have ac3 := A1.out.cell 3 rfl
          go_wp2_with fail
          refine (H1.out _).mono ?_
          rintro e w2 ⟨rfl, g2⟩
          have A2 := Lib.hid (A1.out.kept g2)
          have G2 := Lib.hid (grow_trans G1.out g2)
          clear g2
          clear ac0 ac1 ac2 ac3
          have ac0 := A2.out.cell 0 rfl
          have ac1 := A2.out.cell 1 rfl
          have ac2 := A2.out.cell 2 rfl
          have ac3 := A2.out.cell 3 rfl
          go_wp2_with fail
          refine (H2.out _).mono ?_
          rintro e w3 ⟨rfl, g3⟩
          have A3 := Lib.hid (A2.out.kept g3)
          have G3 := Lib.hid (grow_trans G2.out g3)
          clear g3
          clear ac0 ac1 ac2 ac3
          go_wp2_with fail
          go_ret
          exact ⟨rfl, G3.out⟩
        · have x21 : decide (0 ≤ cut) = false := decide_eq_false x20
          go_enter Try.func7, Try.ntmps7
          go_wp2_with fail
          refine (postShown _).mono ?_
          rintro e w1 ⟨rfl, g1⟩
          have A1 := Lib.hid (A0.out.kept g1)
          have G1 := Lib.hid (G0.out.trans (g1.mono (by simp)))
          clear g1
          have ac0 := A1.out.cell 0 rfl
          have ac1 := A1.out.cell 1 rfl
          have ac2 := A1.out.cell 2 rfl
          have ac3 := A1.out.cell 3 rfl
          go_wp2_with fail
          refine (H1.out _).mono ?_
          rintro e w2 ⟨rfl, g2⟩
          have A2 := Lib.hid (A1.out.kept g2)
          have G2 := Lib.hid (grow_trans G1.out g2)
          clear g2
          clear ac0 ac1 ac2 ac3
          have ac0 := A2.out.cell 0 rfl
          have ac1 := A2.out.cell 1 rfl
          have ac2 := A2.out.cell 2 rfl
          have ac3 := A2.out.cell 3 rfl
          go_wp2_with fail
          refine (H2.out _).mono ?_
          rintro e w3 ⟨rfl, g3⟩
          have A3 := Lib.hid (A2.out.kept g3)
          have G3 := Lib.hid (grow_trans G2.out g3)
          clear g3
          clear ac0 ac1 ac2 ac3
          go_wp2_with fail
          go_ret
          exact ⟨rfl, G3.out⟩
    · have x21 : ((e2 : Int) == 0) = false := by rw [beq_eq_false_iff_ne]; omega
      go_enter Try.func7, Try.ntmps7
      go_wp2_with fail
      refine (postShown _).mono ?_
      rintro e w1 ⟨rfl, g1⟩
      have A1 := Lib.hid (A0.out.kept g1)
      have G1 := Lib.hid (G0.out.trans (g1.mono (by simp)))
      clear g1
      have ac0 := A1.out.cell 0 rfl
      have ac1 := A1.out.cell 1 rfl
      have ac2 := A1.out.cell 2 rfl
      have ac3 := A1.out.cell 3 rfl
      go_wp2_with fail
      refine (H1.out _).mono ?_
      rintro e w2 ⟨rfl, g2⟩
      have A2 := Lib.hid (A1.out.kept g2)
      have G2 := Lib.hid (grow_trans G1.out g2)
      clear g2
      clear ac0 ac1 ac2 ac3
      have ac0 := A2.out.cell 0 rfl
      have ac1 := A2.out.cell 1 rfl
      have ac2 := A2.out.cell 2 rfl
      have ac3 := A2.out.cell 3 rfl
      go_wp2_with fail
      refine (H2.out _).mono ?_
      rintro e w3 ⟨rfl, g3⟩
      have A3 := Lib.hid (A2.out.kept g3)
      have G3 := Lib.hid (grow_trans G2.out g3)
      clear g3
      clear ac0 ac1 ac2 ac3
      go_wp2_with fail
      go_ret
      exact ⟨rfl, G3.out⟩

theorem postCut_walk {H : Type} (enc : TypeId × Value → H) (W : World) (base : Nat) (v0 : Value) (v1 : Value) (d0 : DataW H) (d1 : DataW H) (p0 : List MemPlace) (p1 : List MemPlace)
    (h0 : DataW.Trod enc Try.prog W 0 (fun _ => true) true 30 v0 d0 p0) (o0 : Value.okWide Try.prog W .any base 30 v0)
    (h1 : DataW.Trod enc Try.prog W 0 (fun _ => true) true 3 v1 d1 p1) (o1 : Value.okWide Try.prog W .any base 3 v1)
    (_hsz : (DataW.weightsEach Try.prog [30, 3] [d0, d1]).all (· ≤ reachBytes) = true) :
    Calls Try.prog 7 #[v0, v1] W fun e W' => e = .returned (.bool true) ∧ Below W.heap.size W W' := by
  obtain ⟨a0, a1, a2, a3, y0, y1, y2, y3, n, rfl, rfl, _, e0, e1, e2, e3⟩ := Joins.open_agg4 Try.underlying30 (by kernel_rfl) (by kernel_rfl) o0 h0
  obtain ⟨a, _, _, rfl, rfl⟩ := trod_i64 Try.underlying3 e0
  obtain ⟨r, _, _, rfl, rfl⟩ := trod_i64 Try.underlying3 e1
  obtain ⟨v, _, _, rfl, rfl⟩ := trod_i64 Try.underlying3 e2
  obtain ⟨d, rfl, rfl⟩ := trod_tx Try.underlying9 e3
  obtain ⟨c, _, _, rfl, rfl, rfl⟩ := open_i64 Try.underlying3 o1 h1
  exact postCut_core (a, r, v, d) c W
end Go.Proofs.Ytbkpekpajeaacaa
