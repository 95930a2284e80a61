/- Package post as it landed: Say, Ballot, Tx. -/
import Derived.Test.YtbkpekpajeaacaaPostA
import Derived.Deep.OwnRows
namespace Po
theorem sayR_ok {a r v : Int} {d : List UInt8} (h : (named a r d && seat v) = true) : sayR (a, r, v, d) = (121 :: (nums [a, r, v] ++ d), 0) := by
  rw [Bool.and_eq_true] at h; rw [sayR, if_pos h]
theorem sayR_no {a r v : Int} {d : List UInt8} (h : (named a r d && seat v) = false) : sayR (a, r, v, d) = ([], 1) := by
  rw [sayR, if_neg (by rw [← Bool.and_eq_true, h]; simp)]
theorem named_to {a r : Int} {d : List UInt8} (h : named a r d = true) : 1 ≤ a ∧ a ≤ 64 ∧ 1 ≤ r ∧ r ≤ 1048576 ∧ d.length = 32 := of_decide_eq_true h
theorem seat_to {v : Int} (h : seat v = true) : 1 ≤ v ∧ v ≤ 64 := of_decide_eq_true h
end Po
namespace Go.Proofs.Ytbkpekpajeaacaa
open Go.RowKit
set_option maxRecDepth 100000
attribute [local go_sem] ByteArray.mk_append_mk
set_option maxHeartbeats 2000000 in
theorem psay (a r v : Int) (d : List UInt8) (w : World) : Calls Try.prog 14 #[sayV (a, r, v, d)] w fun e w' => e = .returned (.tuple #[tx (Po.sayR (a, r, v, d)).1, .int .i64 (Po.sayR (a, r, v, d)).2]) ∧ Below w.heap.size w w' := by
  have A0 := Lib.hid (Blk.new w 30 [.int .i64 a, .int .i64 r, .int .i64 v, tx d])
  have HG := Lib.hid (show Below w.heap.size w (w.alloc (.cells #[.int .i64 a, .int .i64 r, .int .i64 v, tx d] 30)) from (Below.refl _ _).alloc (Nat.le_refl _) _)
  have c0 := A0.out.cell 0 rfl
  have c1 := A0.out.cell 1 rfl
  have c2 := A0.out.cell 2 rfl
  have c3 := A0.out.cell 3 rfl
  obtain ⟨z, hz⟩ : ∃ z, (Po.named a r d && Po.seat v) = z := ⟨_, rfl⟩
  have HM := Lib.hid (pmaySay_eq hz)
  cases z with
  | false =>
    rw [Po.sayR_no hz]
    clear hz
    go_enter Try.func14, Try.ntmps14
    go_wp2_with fail
    refine (HM.out _).mono ?_
    rintro e w1 ⟨rfl, g1⟩
    have G1 := Lib.hid (HG.out.trans (g1.mono (by simp)))
    clear g1
    go_wp2
    go_ret2
    exact ⟨rfl, G1.out⟩
  | true =>
    rw [Po.sayR_ok hz]
    obtain ⟨b0, hb0⟩ : ∃ s, Po.nums [a, r, v] = s := ⟨_, rfl⟩
    have hbl := nums_le [a, r, v]
    rw [hb0] at hbl
    simp only [List.length_cons, List.length_nil] at hbl
    obtain ⟨n1, n2, n3, n4, n5⟩ := Po.named_to (show Po.named a r d = true by rw [Bool.and_eq_true] at hz; exact hz.1)
    obtain ⟨n6, n7⟩ := Po.seat_to (show Po.seat v = true by rw [Bool.and_eq_true] at hz; exact hz.2)
    have e1 := fun W => cat_run b0 d (by omega) W
    obtain ⟨t, ht⟩ : ∃ t, b0 ++ d = t := ⟨_, rfl⟩
    have htl := congrArg List.length ht
    rw [List.length_append] at htl
    rw [ht] at e1
    have HL := Lib.hid (pletter121 t (by omega))
    have hk := Lib.hid (show ∀ X Y : World, (fun w' : World => w'.cell? ⟨w.heap.size, 0, none⟩ = some (.int .i64 a) ∧ w'.cell? ⟨w.heap.size, 1, none⟩ = some (.int .i64 r) ∧ w'.cell? ⟨w.heap.size, 2, none⟩ = some (.int .i64 v) ∧ w'.cell? ⟨w.heap.size, 3, none⟩ = some (tx d) ∧ Below w.heap.size w w') X → Below X.heap.size X Y → (fun w' : World => w'.cell? ⟨w.heap.size, 0, none⟩ = some (.int .i64 a) ∧ w'.cell? ⟨w.heap.size, 1, none⟩ = some (.int .i64 r) ∧ w'.cell? ⟨w.heap.size, 2, none⟩ = some (.int .i64 v) ∧ w'.cell? ⟨w.heap.size, 3, none⟩ = some (tx d) ∧ Below w.heap.size w w') Y from fun X Y ⟨k0, k1, k2, k3, kb⟩ h => ⟨below_cell h k0, below_cell h k1, below_cell h k2, below_cell h k3, grow_trans kb h⟩)
    have qn := Lib.hid (fun (W' : World) (A : Nat) (h0 : W'.cell? ⟨A, 0, none⟩ = some (.int .i64 a)) (h1 : W'.cell? ⟨A, 1, none⟩ = some (.int .i64 r)) (h2 : W'.cell? ⟨A, 2, none⟩ = some (.int .i64 v)) (h : (fun w' : World => w'.cell? ⟨w.heap.size, 0, none⟩ = some (.int .i64 a) ∧ w'.cell? ⟨w.heap.size, 1, none⟩ = some (.int .i64 r) ∧ w'.cell? ⟨w.heap.size, 2, none⟩ = some (.int .i64 v) ∧ w'.cell? ⟨w.heap.size, 3, none⟩ = some (tx d) ∧ Below w.heap.size w w') W') => keepB (fun w' : World => w'.cell? ⟨w.heap.size, 0, none⟩ = some (.int .i64 a) ∧ w'.cell? ⟨w.heap.size, 1, none⟩ = some (.int .i64 r) ∧ w'.cell? ⟨w.heap.size, 2, none⟩ = some (.int .i64 v) ∧ w'.cell? ⟨w.heap.size, 3, none⟩ = some (tx d) ∧ Below w.heap.size w w') hk.out (hb0 ▸ pnums A 3 [a, r, v] (by simp) (by intro x hx; simp at hx; omega) W' (fun k hk => by match k, hk with | 0, _ => exact h0 | 1, _ => exact h1 | 2, _ => exact h2)) h)
    have E := Lib.hid (show (121 : UInt8) :: (Po.nums [a, r, v] ++ d) = 121 :: t by rw [hb0, ht])
    rw [E.out]
    clear hz hb0 ht hbl htl
    go_enter Try.func14, Try.ntmps14
    go_wp2_with fail
    refine (HM.out _).mono ?_
    rintro e w1 ⟨rfl, g1⟩
    have A1 := Lib.hid (A0.out.kept g1)
    have G1 := Lib.hid (HG.out.trans (g1.mono (by simp)))
    clear g1 c0 c1 c2 c3
    have c0 := A1.out.cell 0 rfl
    have c1 := A1.out.cell 1 rfl
    have c2 := A1.out.cell 2 rfl
    have c3 := A1.out.cell 3 rfl
    have hS : (fun w' : World => w'.cell? ⟨w.heap.size, 0, none⟩ = some (.int .i64 a) ∧ w'.cell? ⟨w.heap.size, 1, none⟩ = some (.int .i64 r) ∧ w'.cell? ⟨w.heap.size, 2, none⟩ = some (.int .i64 v) ∧ w'.cell? ⟨w.heap.size, 3, none⟩ = some (tx d) ∧ Below w.heap.size w w') w1 := ⟨c0, c1, c2, c3, G1.out⟩
    clear c0 c1 c2 c3 A0 A1 HG G1 HM
    go_wp2_with fail
    go_region_held3 (fun w' : World => w'.cell? ⟨w.heap.size, 0, none⟩ = some (.int .i64 a) ∧ w'.cell? ⟨w.heap.size, 1, none⟩ = some (.int .i64 r) ∧ w'.cell? ⟨w.heap.size, 2, none⟩ = some (.int .i64 v) ∧ w'.cell? ⟨w.heap.size, 3, none⟩ = some (tx d) ∧ Below w.heap.size w w')
      (first | assumption | exact hk.out _ _ hS (Below.drew (Below.refl _ _)) | exact hk.out _ _ (by assumption) ((Below.refl _ _).alloc (Nat.le_refl _) _) | exact hk.out _ _ hS ((Below.drew (Below.refl _ _)).alloc (by simp) _))
      (first
        | (go_at_call 39; refine (qn.out _ _ (by simp) (by simp) (by simp) (by first | assumption | exact hk.out _ _ (by assumption) ((Below.refl _ _).alloc (Nat.le_refl _) _))).mono ?_; rintro e wz ⟨rfl, kS⟩)
        | (go_at_call 34; refine (HL.out _).mono ?_; rintro e wz ⟨rfl, rfl⟩))
    all_goals
      go_wp2_with fail
      go_ret2
      exact ⟨rfl, (show (fun w' : World => w'.cell? ⟨w.heap.size, 0, none⟩ = some (.int .i64 a) ∧ w'.cell? ⟨w.heap.size, 1, none⟩ = some (.int .i64 r) ∧ w'.cell? ⟨w.heap.size, 2, none⟩ = some (.int .i64 v) ∧ w'.cell? ⟨w.heap.size, 3, none⟩ = some (tx d) ∧ Below w.heap.size w w') _ by assumption).2.2.2.2⟩

theorem ballotR_ok {a r : Int} {d : List UInt8} (h : Po.named a r d = true) : Po.ballotR a r d = (118 :: (Po.nums [a, r] ++ d), 0) := by rw [Po.ballotR, if_pos h]
theorem ballotR_no {a r : Int} {d : List UInt8} (h : Po.named a r d = false) : Po.ballotR a r d = ([], 1) := by rw [Po.ballotR, if_neg (by simp [h])]
set_option maxHeartbeats 2000000 in
theorem pballot (a r : Int) (d : List UInt8) (w : World) : Calls Try.prog 16 #[balV a r d] w fun e w' => e = .returned (.tuple #[tx (Po.ballotR a r d).1, .int .i64 (Po.ballotR a r d).2]) ∧ Below w.heap.size w w' := by
  have A0 := Lib.hid (Blk.new w 47 [.int .i64 a, .int .i64 r, tx d])
  have HG := Lib.hid (show Below w.heap.size w (w.alloc (.cells #[.int .i64 a, .int .i64 r, tx d] 47)) from (Below.refl _ _).alloc (Nat.le_refl _) _)
  have c0 := A0.out.cell 0 rfl
  have c1 := A0.out.cell 1 rfl
  have c2 := A0.out.cell 2 rfl
  obtain ⟨z, hz⟩ : ∃ z, Po.named a r d = z := ⟨_, rfl⟩
  have HM := Lib.hid (pmayBallot_eq hz)
  cases z with
  | false =>
    rw [ballotR_no hz]
    clear hz
    go_enter Try.func16, Try.ntmps16
    go_wp2_with fail
    refine (HM.out _).mono ?_
    rintro e w1 ⟨rfl, g1⟩
    have G1 := Lib.hid (HG.out.trans (g1.mono (by simp)))
    clear g1
    go_wp2
    go_ret2
    exact ⟨rfl, G1.out⟩
  | true =>
    rw [ballotR_ok hz]
    obtain ⟨b0, hb0⟩ : ∃ s, Po.nums [a, r] = s := ⟨_, rfl⟩
    have hbl := nums_le [a, r]
    rw [hb0] at hbl
    simp only [List.length_cons, List.length_nil] at hbl
    obtain ⟨n1, n2, n3, n4, n5⟩ := Po.named_to hz
    have e1 := fun W => cat_run b0 d (by omega) W
    obtain ⟨t, ht⟩ : ∃ t, b0 ++ d = t := ⟨_, rfl⟩
    have htl := congrArg List.length ht
    rw [List.length_append] at htl
    rw [ht] at e1
    have HL := Lib.hid (pletter118 t (by omega))
    have hk := Lib.hid (show ∀ X Y : World, (fun w' : World => w'.cell? ⟨w.heap.size, 0, none⟩ = some (.int .i64 a) ∧ w'.cell? ⟨w.heap.size, 1, none⟩ = some (.int .i64 r) ∧ w'.cell? ⟨w.heap.size, 2, none⟩ = some (tx d) ∧ Below w.heap.size w w') X → Below X.heap.size X Y → (fun w' : World => w'.cell? ⟨w.heap.size, 0, none⟩ = some (.int .i64 a) ∧ w'.cell? ⟨w.heap.size, 1, none⟩ = some (.int .i64 r) ∧ w'.cell? ⟨w.heap.size, 2, none⟩ = some (tx d) ∧ Below w.heap.size w w') Y from fun X Y ⟨k0, k1, k2, kb⟩ h => ⟨below_cell h k0, below_cell h k1, below_cell h k2, grow_trans kb h⟩)
    have qn := Lib.hid (fun (W' : World) (A : Nat) (h0 : W'.cell? ⟨A, 0, none⟩ = some (.int .i64 a)) (h1 : W'.cell? ⟨A, 1, none⟩ = some (.int .i64 r)) (h : (fun w' : World => w'.cell? ⟨w.heap.size, 0, none⟩ = some (.int .i64 a) ∧ w'.cell? ⟨w.heap.size, 1, none⟩ = some (.int .i64 r) ∧ w'.cell? ⟨w.heap.size, 2, none⟩ = some (tx d) ∧ Below w.heap.size w w') W') => keepB (fun w' : World => w'.cell? ⟨w.heap.size, 0, none⟩ = some (.int .i64 a) ∧ w'.cell? ⟨w.heap.size, 1, none⟩ = some (.int .i64 r) ∧ w'.cell? ⟨w.heap.size, 2, none⟩ = some (tx d) ∧ Below w.heap.size w w') hk.out (hb0 ▸ pnums A 2 [a, r] (by simp) (by intro x hx; simp at hx; omega) W' (fun k hk => by match k, hk with | 0, _ => exact h0 | 1, _ => exact h1)) h)
    have E := Lib.hid (show (118 : UInt8) :: (Po.nums [a, r] ++ d) = 118 :: t by rw [hb0, ht])
    rw [E.out]
    clear hz hb0 ht hbl htl
    go_enter Try.func16, Try.ntmps16
    go_wp2_with fail
    refine (HM.out _).mono ?_
    rintro e w1 ⟨rfl, g1⟩
    have A1 := Lib.hid (A0.out.kept g1)
    have G1 := Lib.hid (HG.out.trans (g1.mono (by simp)))
    clear g1 c0 c1 c2
    have c0 := A1.out.cell 0 rfl
    have c1 := A1.out.cell 1 rfl
    have c2 := A1.out.cell 2 rfl
    have hS : (fun w' : World => w'.cell? ⟨w.heap.size, 0, none⟩ = some (.int .i64 a) ∧ w'.cell? ⟨w.heap.size, 1, none⟩ = some (.int .i64 r) ∧ w'.cell? ⟨w.heap.size, 2, none⟩ = some (tx d) ∧ Below w.heap.size w w') w1 := ⟨c0, c1, c2, G1.out⟩
    clear c0 c1 c2 A0 A1 HG G1 HM
    go_wp2_with fail
    go_region_held3 (fun w' : World => w'.cell? ⟨w.heap.size, 0, none⟩ = some (.int .i64 a) ∧ w'.cell? ⟨w.heap.size, 1, none⟩ = some (.int .i64 r) ∧ w'.cell? ⟨w.heap.size, 2, none⟩ = some (tx d) ∧ Below w.heap.size w w')
      (first | assumption | exact hk.out _ _ hS (Below.drew (Below.refl _ _)) | exact hk.out _ _ (by assumption) ((Below.refl _ _).alloc (Nat.le_refl _) _) | exact hk.out _ _ hS ((Below.drew (Below.refl _ _)).alloc (by simp) _))
      (first
        | (go_at_call 39; refine (qn.out _ _ (by simp) (by simp) (by first | assumption | exact hk.out _ _ (by assumption) ((Below.refl _ _).alloc (Nat.le_refl _) _))).mono ?_; rintro e wz ⟨rfl, kS⟩)
        | (go_at_call 34; refine (HL.out _).mono ?_; rintro e wz ⟨rfl, rfl⟩))
    all_goals
      go_wp2_with fail
      go_ret2
      exact ⟨rfl, (show (fun w' : World => w'.cell? ⟨w.heap.size, 0, none⟩ = some (.int .i64 a) ∧ w'.cell? ⟨w.heap.size, 1, none⟩ = some (.int .i64 r) ∧ w'.cell? ⟨w.heap.size, 2, none⟩ = some (tx d) ∧ Below w.heap.size w w') _ by assumption).2.2.2⟩

theorem psay_eq {a r v : Int} {d : List UInt8} {R : List UInt8 × Nat} (h : Po.sayR (a, r, v, d) = R) (w : World) : Calls Try.prog 14 #[sayV (a, r, v, d)] w fun e w' => e = .returned (.tuple #[tx R.1, .int .i64 R.2]) ∧ Below w.heap.size w w' := h ▸ psay a r v d w
theorem pballot_eq {a r : Int} {d : List UInt8} {R : List UInt8 × Nat} (h : Po.ballotR a r d = R) (w : World) : Calls Try.prog 16 #[balV a r d] w fun e w' => e = .returned (.tuple #[tx R.1, .int .i64 R.2]) ∧ Below w.heap.size w w' := h ▸ pballot a r d w
set_option maxHeartbeats 1000000 in
theorem ptx (s : List UInt8) (hs : s.length ≤ 140737488351232) (w : World) : Calls Try.prog 18 #[tx s] w fun e w' => e = .returned (tx (116 :: s)) ∧ w' = w := by
  have e1 := fun W => cat_run [116] s (by simp; omega) W
  go_enter Try.func18, Try.ntmps18
  go_wp2
  go_ret
  exact ⟨rfl, rfl⟩
theorem pkind_eq {s : List UInt8} {c : Nat} (h : (Po.kind s).toNat = c) (w : World) : Calls Try.prog 19 #[tx s] w fun e w' => e = .returned (.int .u8 c) ∧ w' = w := h ▸ pkind s w
set_option maxHeartbeats 1000000 in
theorem rkind (s : List UInt8) (w : World) : Calls Try.prog 20 #[tx s] w fun e w' => e = .returned (.int .u8 (Po.kind s).toNat) ∧ w' = w := by
  cases s with
  | nil =>
    go_enter Try.func20, Try.ntmps20
    go_wp2
    go_ret
    exact ⟨rfl, rfl⟩
  | cons b s =>
    have t1 : (((b :: s).length : Int) == 0) = false := by rw [beq_eq_false_iff_ne]; simp; omega
    go_enter Try.func20, Try.ntmps20
    go_wp2
    go_ret
    exact ⟨rfl, rfl⟩
theorem rkind_eq {s : List UInt8} {c : Nat} (h : (Po.kind s).toNat = c) (w : World) : Calls Try.prog 20 #[tx s] w fun e w' => e = .returned (.int .u8 c) ∧ w' = w := h ▸ rkind s w

theorem info_u8 : (Try.prog.info? 5).map (fun i => (i.zero, i.size, i.bytes)) = some (some (.int .u8 0), 1, 1) := by kernel_rfl
theorem make32 (w : World) : (Instr.makeSlice 79 (.int .i64 32) (.int .i64 32)).run Try.prog w = .ok (.slice (some ⟨w.heap.size, 0, none⟩) 32 32) (w.alloc (.cells ((List.replicate 32 (0 : UInt8)).map bv).toArray 5)) := by
  have h := run_make_row' (P := Try.prog) 79 5 (.int .u8 0) 1 Try.underlying79 info_u8 rfl .i64 .i64 32 (by omega) (by omega) w
  rw [show (madeCells #[Value.int IntKind.u8 0] 32) = ((List.replicate 32 (0 : UInt8)).map bv).toArray from by kernel_rfl] at h
  exact h

set_option maxHeartbeats 2000000 in
theorem postShown (w : World) : Calls Try.prog 9 #[] w fun e w' => e = .returned (.bool true) ∧ Below w.heap.size w w' := by
  have hm := make32 w
  have hc := conv_tail w (List.replicate 32 (0 : UInt8)) 0 (by simp) 5 32 32 (by simp)
  have hl : (List.replicate 32 (0 : UInt8)).length = 32 := by simp
  rw [List.drop_zero] at hc
  generalize List.replicate 32 (0 : UInt8) = d at hm hc hl
  have hR : Po.sayR (1, 2, 3, d) = (121 :: 1 :: 1 :: 1 :: 2 :: 1 :: 3 :: d, 0) := by
    rw [Po.sayR_ok (by simp [Po.named, Po.seat, hl])]
    rfl
  have HR := Lib.hid (psay_eq hR)
  have e1 := fun W => cat_run [121, 1, 1, 1, 2, 1, 3] d (by simp; omega) W
  have HK := Lib.hid (fun W => pkind_eq (s := []) (c := 0) rfl W)
  have HK2 := Lib.hid (fun W => pkind_eq (s := 121 :: 1 :: 1 :: 1 :: 2 :: 1 :: 3 :: d) (c := 121) rfl W)
  have HG := Lib.hid (show Below w.heap.size w (w.alloc (.cells (d.map bv).toArray 5)) from (Below.refl _ _).alloc (Nat.le_refl _) _)
  clear hR hl
  go_enter Try.func9, Try.ntmps9
  go_wp2_with fail
  refine (HR.out _).mono ?_
  rintro e w1 ⟨rfl, g1⟩
  have G1 := Lib.hid (HG.out.trans (g1.mono (by simp)))
  clear g1 hm hc
  go_wp2_with fail
  refine (HK.out _).mono ?_
  rintro e w2 ⟨rfl, rfl⟩
  go_wp2_with fail
  refine (HK2.out _).mono ?_
  rintro e w3 ⟨rfl, rfl⟩
  go_wp2
  go_ret
  exact ⟨rfl, G1.out⟩
end Go.Proofs.Ytbkpekpajeaacaa
