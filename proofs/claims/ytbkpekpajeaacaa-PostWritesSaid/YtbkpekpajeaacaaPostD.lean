/- The document's answers for post: Header, Proof, Say, Ballot. -/
import Derived.Test.YtbkpekpajeaacaaPostC
import Derived.Test.YtbkpekpajeaacaaCrRTake
namespace Go.Proofs.Ytbkpekpajeaacaa
open Go.RowKit
set_option maxRecDepth 100000
attribute [local go_sem] ByteArray.mk_append_mk
theorem rvbytes_len0 : True := trivial
theorem rcbytes_eqP {n : Int} {p : Cr.Prf} {R : List UInt8 × Nat} (h : Cr.bytesR p n = R) (bv pv : Value) (w : World) (hb : BtsAt w bv p.1.2.2.1) (hp : TxAt w pv p.1.2.2.2.1) (mv : Vt.Mod p.1) (hx : p.2 < 18446744073709551616) (n1 : -9223372036854775808 ≤ n) (n2 : n ≤ 9223372036854775807) :
    Calls Try.prog 37 #[prfV p.1.1 p.1.2.1 bv pv p.1.2.2.2.2.1 p.1.2.2.2.2.2 p.2, .int .i64 n] w fun e w' => e = .returned (.tuple #[tx R.1, .int .i64 R.2]) ∧ Below w.heap.size w w' :=
  h ▸ rcbytes n p bv pv w hb hp mv hx n1 n2
theorem rnumI {n : Int} {l : List UInt8} (h0 : 0 ≤ n) (h1 : n ≤ 9223372036854775807) (h : Dg.num n.toNat = l) (w : World) :
    Calls Try.prog 41 #[.int .u64 n] w fun e w' => e = .returned (tx l) ∧ Below w.heap.size w w' := by
  obtain ⟨m, rfl⟩ := Int.eq_ofNat_of_zero_le h0
  exact rnum_eq h (by omega) w

set_option maxHeartbeats 2000000 in
theorem rheaderV (v : Vt.Vtx) (bv pv : Value) (n : Int) (w : World) (hb : BtsAt w bv v.2.2.1) (hp : TxAt w pv v.2.2.2.1) (mv : Vt.Mod v) (n1 : -9223372036854775808 ≤ n) (n2 : n ≤ 9223372036854775807) :
    Calls Try.prog 11 #[vtxV v.1 v.2.1 bv pv v.2.2.2.2.1 v.2.2.2.2.2, .int .i64 n] w fun e w' => e = .returned (.tuple #[tx (Po.lettered 104 (Vt.bytesR v n)).1, .int .i64 (Po.lettered 104 (Vt.bytesR v n)).2]) ∧ Below w.heap.size w w' := by
  obtain ⟨⟨s, en⟩, hR⟩ : ∃ R, Vt.bytesR v n = R := ⟨_, rfl⟩
  have hsl := vt_bytes_len hR
  rw [hR]
  have H := Lib.hid (fun w hb hp => rvbytes_eq hR bv pv w hb hp mv n1 n2)
  obtain ⟨a, r, bs, ps, x, y⟩ := v
  simp only [] at hb hp
  have HB := Lib.hid hb
  have HP := Lib.hid hp
  obtain ⟨m1, m2, rfl⟩ := hb.len
  obtain ⟨m3, m4, rfl⟩ := hp.len
  have A0 := Lib.hid (VBox.new w a r (.slice m1 bs.length m2) (.slice m3 ps.length m4) x y)
  have HG := Lib.hid (show Below w.heap.size w (w.alloc (.cells #[.int .i64 a, .int .i64 r, .slice m1 bs.length m2, .slice m3 ps.length m4, .int .i64 x, .int .i64 y] 27)) from (Below.refl _ _).alloc (Nat.le_refl _) _)
  obtain ⟨c0, c1, c2, c3, c4, c5⟩ := A0.out.cells
  have e1 := fun W => cat_run [104] s (by simp; omega) W
  clear hb hp hR
  by_cases h0 : en = 0
  · subst h0
    rw [Po.lettered_ok]
    go_enter Try.func11, Try.ntmps11
    go_wp2_with fail
    refine (H.out _ (HB.out.below HG.out) (HP.out.below HG.out)).mono ?_
    rintro e w1 ⟨rfl, g1⟩
    have G1 := Lib.hid (HG.out.trans (g1.mono (by simp)))
    clear g1 c0 c1 c2 c3 c4 c5
    go_wp2
    go_ret2
    exact ⟨rfl, G1.out⟩
  · rw [Po.lettered_no h0]
    have t1 : ((en : Int) != 0) = true := by rw [bne_iff_ne]; omega
    go_enter Try.func11, Try.ntmps11
    go_wp2_with fail
    refine (H.out _ (HB.out.below HG.out) (HP.out.below HG.out)).mono ?_
    rintro e w1 ⟨rfl, g1⟩
    have G1 := Lib.hid (HG.out.trans (g1.mono (by simp)))
    clear g1 c0 c1 c2 c3 c4 c5
    go_wp2
    go_ret2
    exact ⟨rfl, G1.out⟩

set_option maxHeartbeats 2000000 in
theorem rproofP (p : Cr.Prf) (bv pv : Value) (n : Int) (w : World) (hb : BtsAt w bv p.1.2.2.1) (hp : TxAt w pv p.1.2.2.2.1) (mv : Vt.Mod p.1) (hx : p.2 < 18446744073709551616) (n1 : -9223372036854775808 ≤ n) (n2 : n ≤ 9223372036854775807) :
    Calls Try.prog 13 #[prfV p.1.1 p.1.2.1 bv pv p.1.2.2.2.2.1 p.1.2.2.2.2.2 p.2, .int .i64 n] w fun e w' => e = .returned (.tuple #[tx (Po.lettered 99 (Cr.bytesR p n)).1, .int .i64 (Po.lettered 99 (Cr.bytesR p n)).2]) ∧ Below w.heap.size w w' := by
  obtain ⟨⟨s, en⟩, hR⟩ : ∃ R, Cr.bytesR p n = R := ⟨_, rfl⟩
  have hsl := cr_bytes_len hR
  rw [hR]
  have H := Lib.hid (fun w hb hp => rcbytes_eqP hR bv pv w hb hp mv hx n1 n2)
  obtain ⟨⟨a, r, bs, ps, x, y⟩, c⟩ := p
  simp only [] at hb hp
  have HB := Lib.hid hb
  have HP := Lib.hid hp
  obtain ⟨m1, m2, rfl⟩ := hb.len
  obtain ⟨m3, m4, rfl⟩ := hp.len
  have A0 := Lib.hid (PBox.new w a r (.slice m1 bs.length m2) (.slice m3 ps.length m4) x y c)
  have HG := Lib.hid (show Below w.heap.size w (w.alloc (.cells #[.int .i64 a, .int .i64 r, .slice m1 bs.length m2, .slice m3 ps.length m4, .int .i64 x, .int .i64 y, .int .u64 c] 41)) from (Below.refl _ _).alloc (Nat.le_refl _) _)
  obtain ⟨c0, c1, c2, c3, c4, c5, c6⟩ := A0.out.cells
  have e1 := fun W => cat_run [99] s (by simp; omega) W
  clear hb hp hR
  by_cases h0 : en = 0
  · subst h0
    rw [Po.lettered_ok]
    go_enter Try.func13, Try.ntmps13
    go_wp2_with fail
    refine (H.out _ (HB.out.below HG.out) (HP.out.below HG.out)).mono ?_
    rintro e w1 ⟨rfl, g1⟩
    have G1 := Lib.hid (HG.out.trans (g1.mono (by simp)))
    clear g1 c0 c1 c2 c3 c4 c5 c6
    go_wp2
    go_ret2
    exact ⟨rfl, G1.out⟩
  · rw [Po.lettered_no h0]
    have t1 : ((en : Int) != 0) = true := by rw [bne_iff_ne]; omega
    go_enter Try.func13, Try.ntmps13
    go_wp2_with fail
    refine (H.out _ (HB.out.below HG.out) (HP.out.below HG.out)).mono ?_
    rintro e w1 ⟨rfl, g1⟩
    have G1 := Lib.hid (HG.out.trans (g1.mono (by simp)))
    clear g1 c0 c1 c2 c3 c4 c5 c6
    go_wp2
    go_ret2
    exact ⟨rfl, G1.out⟩

set_option maxHeartbeats 2000000 in
theorem rnamed (a r : Int) (d : List UInt8) (w : World) : Calls Try.prog 40 #[.int .i64 a, .int .i64 r, tx d] w fun e w' => e = .returned (.bool (Po.named a r d)) ∧ w' = w := by
  by_cases h1 : 1 ≤ a
  · have t1 : decide (1 ≤ a) = true := decide_eq_true h1
    by_cases h2 : a ≤ 64
    · have t2 : decide (a ≤ 64) = true := decide_eq_true h2
      by_cases h3 : 1 ≤ r
      · have t3 : decide (1 ≤ r) = true := decide_eq_true h3
        by_cases h4 : r ≤ 1048576
        · have t4 : decide (r ≤ 1048576) = true := decide_eq_true h4
          by_cases h5 : d.length = 32
          · rw [show Po.named a r d = true from decide_eq_true ⟨h1, h2, h3, h4, h5⟩]
            have t5 : ((d.length : Int) == 32) = true := by rw [beq_iff_eq]; omega
            go_enter Try.func40, Try.ntmps40
            go_wp2
            go_ret
            exact ⟨rfl, rfl⟩
          · rw [show Po.named a r d = false from decide_eq_false (fun h => h5 h.2.2.2.2)]
            have t5 : ((d.length : Int) == 32) = false := by rw [beq_eq_false_iff_ne]; omega
            go_enter Try.func40, Try.ntmps40
            go_wp2
            go_ret
            exact ⟨rfl, rfl⟩
        · rw [show Po.named a r d = false from decide_eq_false (fun h => h4 h.2.2.2.1)]
          have t4 : decide (r ≤ 1048576) = false := decide_eq_false h4
          go_enter Try.func40, Try.ntmps40
          go_wp2
          go_ret
          exact ⟨rfl, rfl⟩
      · rw [show Po.named a r d = false from decide_eq_false (fun h => h3 h.2.2.1)]
        have t3 : decide (1 ≤ r) = false := decide_eq_false h3
        go_enter Try.func40, Try.ntmps40
        go_wp2
        go_ret
        exact ⟨rfl, rfl⟩
    · rw [show Po.named a r d = false from decide_eq_false (fun h => h2 h.2.1)]
      have t2 : decide (a ≤ 64) = false := decide_eq_false h2
      go_enter Try.func40, Try.ntmps40
      go_wp2
      go_ret
      exact ⟨rfl, rfl⟩
  · rw [show Po.named a r d = false from decide_eq_false (fun h => h1 h.1)]
    have t1 : decide (1 ≤ a) = false := decide_eq_false h1
    go_enter Try.func40, Try.ntmps40
    go_wp2
    go_ret
    exact ⟨rfl, rfl⟩
theorem rnamed_eq {a r : Int} {d : List UInt8} {z : Bool} (h : Po.named a r d = z) (w : World) : Calls Try.prog 40 #[.int .i64 a, .int .i64 r, tx d] w fun e w' => e = .returned (.bool z) ∧ w' = w := h ▸ rnamed a r d w

set_option maxHeartbeats 4000000 in
theorem rsay (a r v : Int) (d : List UInt8) (w : World) : Calls Try.prog 15 #[sayV (a, r, v, d)] w fun e w' => e = .returned (.tuple #[tx (Po.sayR (a, r, v, d)).1, .int .i64 (Po.sayR (a, r, v, d)).2]) ∧ Below w.heap.size w w' := by
  have A0 := Lib.hid (Blk.new w 30 [.int .i64 a, .int .i64 r, .int .i64 v, tx d])
  have HG := Lib.hid (show Below w.heap.size w (w.alloc (.cells #[.int .i64 a, .int .i64 r, .int .i64 v, tx d] 30)) from (Below.refl _ _).alloc (Nat.le_refl _) _)
  have c0 := A0.out.cell 0 rfl
  have c1 := A0.out.cell 1 rfl
  have c2 := A0.out.cell 2 rfl
  have c3 := A0.out.cell 3 rfl
  obtain ⟨z, hz⟩ : ∃ z, Po.named a r d = z := ⟨_, rfl⟩
  have HM := Lib.hid (rnamed_eq hz)
  cases z with
  | false =>
    rw [Po.sayR_no (by rw [hz]; rfl)]
    clear hz
    go_enter Try.func15, Try.ntmps15
    go_wp2_with fail
    refine (HM.out _).mono ?_
    rintro e w1 ⟨rfl, rfl⟩
    go_wp2
    go_ret2
    exact ⟨rfl, HG.out⟩
  | true =>
    by_cases v1 : v < 1
    · have s1 : decide (v < 1) = true := decide_eq_true v1
      rw [Po.sayR_no (by simp [Po.seat]; intros; omega)]
      clear hz
      go_enter Try.func15, Try.ntmps15
      go_wp2_with fail
      refine (HM.out _).mono ?_
      rintro e w1 ⟨rfl, rfl⟩
      go_wp2
      go_ret2
      exact ⟨rfl, HG.out⟩
    · have s1 : decide (v < 1) = false := decide_eq_false v1
      by_cases v2 : 64 < v
      · have s2 : decide (64 < v) = true := decide_eq_true v2
        rw [Po.sayR_no (by simp [Po.seat]; intros; omega)]
        clear hz
        go_enter Try.func15, Try.ntmps15
        go_wp2_with fail
        refine (HM.out _).mono ?_
        rintro e w1 ⟨rfl, rfl⟩
        go_wp2
        go_ret2
        exact ⟨rfl, HG.out⟩
      · have s2 : decide (64 < v) = false := decide_eq_false v2
        obtain ⟨n1, n2, n3, n4, n5⟩ := Po.named_to hz
        have xl0 : (Dg.num (a).toNat).length ≤ 9 := Dg.num_len _
        have xl1 : (Dg.num (r).toNat).length ≤ 9 := Dg.num_len _
        have xl2 : (Dg.num (v).toNat).length ≤ 9 := Dg.num_len _
        have u0 := fun W => cat_run ([121]) (Dg.num (a).toNat) (by simp; omega) W
        obtain ⟨y0, hy0⟩ : ∃ t, [121] ++ Dg.num (a).toNat = t := ⟨_, rfl⟩
        have yl0 := congrArg List.length hy0
        rw [List.length_append] at yl0
        (try simp only [List.length_cons, List.length_nil] at yl0)
        rw [hy0] at u0
        have u1 := fun W => cat_run (y0) (Dg.num (r).toNat) (by simp; omega) W
        obtain ⟨y1, hy1⟩ : ∃ t, y0 ++ Dg.num (r).toNat = t := ⟨_, rfl⟩
        have yl1 := congrArg List.length hy1
        rw [List.length_append] at yl1
        (try simp only [List.length_cons, List.length_nil] at yl1)
        rw [hy1] at u1
        have u2 := fun W => cat_run (y1) (Dg.num (v).toNat) (by simp; omega) W
        obtain ⟨y2, hy2⟩ : ∃ t, y1 ++ Dg.num (v).toNat = t := ⟨_, rfl⟩
        have yl2 := congrArg List.length hy2
        rw [List.length_append] at yl2
        (try simp only [List.length_cons, List.length_nil] at yl2)
        rw [hy2] at u2
        have u3 := fun W => cat_run y2 d (by omega) W
        have E := Lib.hid (show y2 ++ d = 121 :: (Po.nums [a, r, v] ++ d) by rw [← hy2, ← hy1, ← hy0]; simp [Po.nums])
        rw [Po.sayR_ok (by rw [hz]; simp [Po.seat]; omega), ← E.out]
        have wr0 : IntKind.u64.wrap a = a := IntWalk.u64_in _ ⟨by omega, by omega⟩
        have wr1 : IntKind.u64.wrap r = r := IntWalk.u64_in _ ⟨by omega, by omega⟩
        have wr2 : IntKind.u64.wrap v = v := IntWalk.u64_in _ ⟨by omega, by omega⟩
        have hk := Lib.hid (show ∀ X Y : World, (fun w' : World => w'.cell? ⟨w.heap.size, 0, none⟩ = some (.int .i64 a) ∧ w'.cell? ⟨w.heap.size, 1, none⟩ = some (.int .i64 r) ∧ w'.cell? ⟨w.heap.size, 2, none⟩ = some (.int .i64 v) ∧ w'.cell? ⟨w.heap.size, 3, none⟩ = some (tx d) ∧ Below w.heap.size w w') X → Below X.heap.size X Y → (fun w' : World => w'.cell? ⟨w.heap.size, 0, none⟩ = some (.int .i64 a) ∧ w'.cell? ⟨w.heap.size, 1, none⟩ = some (.int .i64 r) ∧ w'.cell? ⟨w.heap.size, 2, none⟩ = some (.int .i64 v) ∧ w'.cell? ⟨w.heap.size, 3, none⟩ = some (tx d) ∧ Below w.heap.size w w') Y from fun X Y ⟨k0, k1, k2, k3, kb⟩ h => ⟨below_cell h k0, below_cell h k1, below_cell h k2, below_cell h k3, grow_trans kb h⟩)
        have qn := Lib.hid (fun (W' : World) (x : Int) (h0 : 0 ≤ x) (h1 : x ≤ 9223372036854775807) (h : (fun w' : World => w'.cell? ⟨w.heap.size, 0, none⟩ = some (.int .i64 a) ∧ w'.cell? ⟨w.heap.size, 1, none⟩ = some (.int .i64 r) ∧ w'.cell? ⟨w.heap.size, 2, none⟩ = some (.int .i64 v) ∧ w'.cell? ⟨w.heap.size, 3, none⟩ = some (tx d) ∧ Below w.heap.size w w') W') => keepB (fun w' : World => w'.cell? ⟨w.heap.size, 0, none⟩ = some (.int .i64 a) ∧ w'.cell? ⟨w.heap.size, 1, none⟩ = some (.int .i64 r) ∧ w'.cell? ⟨w.heap.size, 2, none⟩ = some (.int .i64 v) ∧ w'.cell? ⟨w.heap.size, 3, none⟩ = some (tx d) ∧ Below w.heap.size w w') hk.out (rnumI (n := x) h0 h1 rfl W') h)
        have hS : (fun w' : World => w'.cell? ⟨w.heap.size, 0, none⟩ = some (.int .i64 a) ∧ w'.cell? ⟨w.heap.size, 1, none⟩ = some (.int .i64 r) ∧ w'.cell? ⟨w.heap.size, 2, none⟩ = some (.int .i64 v) ∧ w'.cell? ⟨w.heap.size, 3, none⟩ = some (tx d) ∧ Below w.heap.size w w') (w.alloc (.cells #[.int .i64 a, .int .i64 r, .int .i64 v, tx d] 30)) := ⟨c0, c1, c2, c3, HG.out⟩
        clear hy0 xl0 yl0 hy1 xl1 yl1 hy2 xl2 yl2 hz A0 HG n5
        go_enter Try.func15, Try.ntmps15
        go_wp2_with fail
        refine (HM.out _).mono ?_
        rintro e w1 ⟨rfl, rfl⟩
        go_wp2_with fail
        go_region_held3 (fun w' : World => w'.cell? ⟨w.heap.size, 0, none⟩ = some (.int .i64 a) ∧ w'.cell? ⟨w.heap.size, 1, none⟩ = some (.int .i64 r) ∧ w'.cell? ⟨w.heap.size, 2, none⟩ = some (.int .i64 v) ∧ w'.cell? ⟨w.heap.size, 3, none⟩ = some (tx d) ∧ Below w.heap.size w w')
          (first | assumption | exact hk.out _ _ hS (Below.drew (Below.refl _ _)) | exact hk.out _ _ (by assumption) ((Below.refl _ _).alloc (Nat.le_refl _) _))
          (first | (go_at_call 41; refine (qn.out _ _ (by omega) (by omega) (by assumption)).mono ?_; rintro e wz ⟨rfl, kS⟩))
        all_goals
          go_wp2_with fail
          go_ret2
          exact ⟨rfl, (show (fun w' : World => w'.cell? ⟨w.heap.size, 0, none⟩ = some (.int .i64 a) ∧ w'.cell? ⟨w.heap.size, 1, none⟩ = some (.int .i64 r) ∧ w'.cell? ⟨w.heap.size, 2, none⟩ = some (.int .i64 v) ∧ w'.cell? ⟨w.heap.size, 3, none⟩ = some (tx d) ∧ Below w.heap.size w w') _ by assumption).2.2.2.2⟩

set_option maxHeartbeats 4000000 in
theorem rballot (a r : Int) (d : List UInt8) (w : World) : Calls Try.prog 17 #[balV a r d] w fun e w' => e = .returned (.tuple #[tx (Po.ballotR a r d).1, .int .i64 (Po.ballotR a r d).2]) ∧ Below w.heap.size w w' := by
  have A0 := Lib.hid (Blk.new w 47 [.int .i64 a, .int .i64 r, tx d])
  have HG := Lib.hid (show Below w.heap.size w (w.alloc (.cells #[.int .i64 a, .int .i64 r, tx d] 47)) from (Below.refl _ _).alloc (Nat.le_refl _) _)
  have c0 := A0.out.cell 0 rfl
  have c1 := A0.out.cell 1 rfl
  have c2 := A0.out.cell 2 rfl
  obtain ⟨z, hz⟩ : ∃ z, Po.named a r d = z := ⟨_, rfl⟩
  have HM := Lib.hid (rnamed_eq hz)
  cases z with
  | false =>
    rw [ballotR_no hz]
    clear hz
    go_enter Try.func17, Try.ntmps17
    go_wp2_with fail
    refine (HM.out _).mono ?_
    rintro e w1 ⟨rfl, rfl⟩
    go_wp2
    go_ret2
    exact ⟨rfl, HG.out⟩
  | true =>
    obtain ⟨n1, n2, n3, n4, n5⟩ := Po.named_to hz
    have xl0 : (Dg.num (a).toNat).length ≤ 9 := Dg.num_len _
    have xl1 : (Dg.num (r).toNat).length ≤ 9 := Dg.num_len _
    have u0 := fun W => cat_run ([118]) (Dg.num (a).toNat) (by simp; omega) W
    obtain ⟨y0, hy0⟩ : ∃ t, [118] ++ Dg.num (a).toNat = t := ⟨_, rfl⟩
    have yl0 := congrArg List.length hy0
    rw [List.length_append] at yl0
    (try simp only [List.length_cons, List.length_nil] at yl0)
    rw [hy0] at u0
    have u1 := fun W => cat_run (y0) (Dg.num (r).toNat) (by simp; omega) W
    obtain ⟨y1, hy1⟩ : ∃ t, y0 ++ Dg.num (r).toNat = t := ⟨_, rfl⟩
    have yl1 := congrArg List.length hy1
    rw [List.length_append] at yl1
    (try simp only [List.length_cons, List.length_nil] at yl1)
    rw [hy1] at u1
    have u2 := fun W => cat_run y1 d (by omega) W
    have E := Lib.hid (show y1 ++ d = 118 :: (Po.nums [a, r] ++ d) by rw [← hy1, ← hy0]; simp [Po.nums])
    rw [ballotR_ok hz, ← E.out]
    have wr0 : IntKind.u64.wrap a = a := IntWalk.u64_in _ ⟨by omega, by omega⟩
    have wr1 : IntKind.u64.wrap r = r := IntWalk.u64_in _ ⟨by omega, by omega⟩
    have hk := Lib.hid (show ∀ X Y : World, (fun w' : World => w'.cell? ⟨w.heap.size, 0, none⟩ = some (.int .i64 a) ∧ w'.cell? ⟨w.heap.size, 1, none⟩ = some (.int .i64 r) ∧ w'.cell? ⟨w.heap.size, 2, none⟩ = some (tx d) ∧ Below w.heap.size w w') X → Below X.heap.size X Y → (fun w' : World => w'.cell? ⟨w.heap.size, 0, none⟩ = some (.int .i64 a) ∧ w'.cell? ⟨w.heap.size, 1, none⟩ = some (.int .i64 r) ∧ w'.cell? ⟨w.heap.size, 2, none⟩ = some (tx d) ∧ Below w.heap.size w w') Y from fun X Y ⟨k0, k1, k2, kb⟩ h => ⟨below_cell h k0, below_cell h k1, below_cell h k2, grow_trans kb h⟩)
    have qn := Lib.hid (fun (W' : World) (x : Int) (h0 : 0 ≤ x) (h1 : x ≤ 9223372036854775807) (h : (fun w' : World => w'.cell? ⟨w.heap.size, 0, none⟩ = some (.int .i64 a) ∧ w'.cell? ⟨w.heap.size, 1, none⟩ = some (.int .i64 r) ∧ w'.cell? ⟨w.heap.size, 2, none⟩ = some (tx d) ∧ Below w.heap.size w w') W') => keepB (fun w' : World => w'.cell? ⟨w.heap.size, 0, none⟩ = some (.int .i64 a) ∧ w'.cell? ⟨w.heap.size, 1, none⟩ = some (.int .i64 r) ∧ w'.cell? ⟨w.heap.size, 2, none⟩ = some (tx d) ∧ Below w.heap.size w w') hk.out (rnumI (n := x) h0 h1 rfl W') h)
    have hS : (fun w' : World => w'.cell? ⟨w.heap.size, 0, none⟩ = some (.int .i64 a) ∧ w'.cell? ⟨w.heap.size, 1, none⟩ = some (.int .i64 r) ∧ w'.cell? ⟨w.heap.size, 2, none⟩ = some (tx d) ∧ Below w.heap.size w w') (w.alloc (.cells #[.int .i64 a, .int .i64 r, tx d] 47)) := ⟨c0, c1, c2, HG.out⟩
    clear hy0 xl0 yl0 hy1 xl1 yl1 hz A0 HG n5
    go_enter Try.func17, Try.ntmps17
    go_wp2_with fail
    refine (HM.out _).mono ?_
    rintro e w1 ⟨rfl, rfl⟩
    go_wp2_with fail
    go_region_held3 (fun w' : World => w'.cell? ⟨w.heap.size, 0, none⟩ = some (.int .i64 a) ∧ w'.cell? ⟨w.heap.size, 1, none⟩ = some (.int .i64 r) ∧ w'.cell? ⟨w.heap.size, 2, none⟩ = some (tx d) ∧ Below w.heap.size w w')
      (first | assumption | exact hk.out _ _ hS (Below.drew (Below.refl _ _)) | exact hk.out _ _ (by assumption) ((Below.refl _ _).alloc (Nat.le_refl _) _))
      (first | (go_at_call 41; refine (qn.out _ _ (by omega) (by omega) (by assumption)).mono ?_; rintro e wz ⟨rfl, kS⟩))
    all_goals
      go_wp2_with fail
      go_ret2
      exact ⟨rfl, (show (fun w' : World => w'.cell? ⟨w.heap.size, 0, none⟩ = some (.int .i64 a) ∧ w'.cell? ⟨w.heap.size, 1, none⟩ = some (.int .i64 r) ∧ w'.cell? ⟨w.heap.size, 2, none⟩ = some (tx d) ∧ Below w.heap.size w w') _ by assumption).2.2.2⟩
end Go.Proofs.Ytbkpekpajeaacaa
