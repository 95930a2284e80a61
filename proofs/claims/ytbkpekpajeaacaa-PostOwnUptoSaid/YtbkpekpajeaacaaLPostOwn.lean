/- PostOwn: the walk. -/
import Derived.Test.YtbkpekpajeaacaaPostH
import Derived.Test.YtbkpekpajeaacaaGDig
namespace Po
def takeTx (s : List UInt8) : List UInt8 × Nat := if kind s = 116 then (s.tail, 0) else ([], 3)
theorem takeSay_e (s : List UInt8) : (takeSay s).2 = 0 ∨ (takeSay s).2 = 3 := by
  rcases takeSay_or s with h | ⟨p, h, _⟩
  · exact .inr h
  · rw [h]; exact .inl rfl
theorem takeBallot_e (s : List UInt8) : (takeBallot s).2 = 0 ∨ (takeBallot s).2 = 3 := by
  rcases takeBallot_or s with h | ⟨p, h, _⟩
  · exact .inr h
  · rw [h]; exact .inl rfl
theorem takeH_e (s : List UInt8) (n : Int) : (takeH s n).2 = 0 ∨ (takeH s n).2 = 3 := by
  unfold takeH; split
  · rcases Vt.take_or s.tail n with ⟨h, _⟩ | ⟨v, h, _⟩ <;> rw [h]
    · exact .inr rfl
    · exact .inl rfl
  · exact .inr rfl
theorem takeC_e (s : List UInt8) (n : Int) : (takeC s n).2 = 0 ∨ (takeC s n).2 = 3 := by
  unfold takeC; split
  · rcases Cr.take_or s.tail n with ⟨h, _⟩ | ⟨v, h, _⟩ <;> rw [h]
    · exact .inr rfl
    · exact .inl rfl
  · exact .inr rfl
theorem takeTx_e (s : List UInt8) : (takeTx s).2 = 0 ∨ (takeTx s).2 = 3 := by
  unfold takeTx; split
  · exact .inl rfl
  · exact .inr rfl
theorem own (s : List UInt8) (n : Int) : [(takeH s n).2, (takeC s n).2, (takeSay s).2, (takeBallot s).2, (takeTx s).2].count 0 ≤ 1 := by
  have h1 : kind s ≠ 104 → (takeH s n).2 = 3 := fun h => by rw [takeH, if_neg h]; rfl
  have h2 : kind s ≠ 99 → (takeC s n).2 = 3 := fun h => by rw [takeC, if_neg h]; rfl
  have h3 : kind s ≠ 121 → (takeSay s).2 = 3 := fun h => by rw [takeSay, if_neg h]
  have h4 : kind s ≠ 118 → (takeBallot s).2 = 3 := fun h => by rw [takeBallot, if_neg h]
  have h5 : kind s ≠ 116 → (takeTx s).2 = 3 := fun h => by rw [takeTx, if_neg h]
  generalize (takeH s n).2 = e1 at *
  generalize (takeC s n).2 = e2 at *
  generalize (takeSay s).2 = e3 at *
  generalize (takeBallot s).2 = e4 at *
  generalize (takeTx s).2 = e5 at *
  generalize kind s = k at *
  simp only [List.count_cons, List.count_nil, beq_iff_eq]
  by_cases k1 : k = 104
  · subst k1; rw [h2 (by decide), h3 (by decide), h4 (by decide), h5 (by decide)]; simp; split <;> omega
  rw [h1 k1]
  by_cases k2 : k = 99
  · subst k2; rw [h3 (by decide), h4 (by decide), h5 (by decide)]; simp; split <;> omega
  rw [h2 k2]
  by_cases k3 : k = 121
  · subst k3; rw [h4 (by decide), h5 (by decide)]; simp; split <;> omega
  rw [h3 k3]
  by_cases k4 : k = 118
  · subst k4; rw [h5 (by decide)]; simp; split <;> omega
  rw [h4 k4]
  simp; split <;> omega
end Po
namespace Go.Proofs.Ytbkpekpajeaacaa
open Go.RowKit Go.ChangeShapes Go.WideShapes Go.ChangeAt
set_option maxRecDepth 100000
attribute [local go_sem] ByteArray.mk_append_mk

set_option maxHeartbeats 2000000 in
theorem pTakeTx (s : List UInt8) (w : World) : Calls Try.prog 29 #[tx s] w fun e w' => e = .returned (.tuple #[tx (Po.takeTx s).1, .int .i64 (Po.takeTx s).2]) ∧ Below w.heap.size w w' := by
  have HT : ∀ W, Calls Try.prog 57 #[.int .u8 116, tx s, .func (.func 58) #[] #[]] W fun e w' => e = .returned (.tuple #[tx (Po.takeTx s).1, .int .i64 (Po.takeTx s).2]) ∧ Below W.heap.size W w' := fun W => by
    by_cases h : Po.kind s = 116
    · rw [Po.takeTx, if_pos h]
      cases s with
      | nil => exact absurd h (by decide)
      | cons b s =>
        obtain rfl : b = 116 := h
        exact ptakeS_yes 116 s W
    · rw [Po.takeTx, if_neg h]
      exact ptakeS_no 116 s h W
  generalize Po.takeTx s = R at *
  obtain ⟨p, er⟩ := R
  have HT := Lib.hid HT
  go_enter Try.func29, Try.ntmps29
  go_wp2_with fail
  refine (HT.out _).mono ?_
  rintro e w1 ⟨rfl, g1⟩
  have G1 := Lib.hid g1
  clear g1
  go_wp2
  go_ret2
  exact ⟨rfl, G1.out⟩

set_option maxHeartbeats 4000000 in
theorem postOwn_core (s : List UInt8) (n : Int) (hs : s.length ≤ 140737488351232) (hnb : n ≤ 4294967296 ∨ s.length ≤ 4294967296) (n1 : -9223372036854775808 ≤ n) (n2 : n ≤ 9223372036854775807) (W : World) :
    Calls Try.prog 6 #[tx s, .int .i64 n] W fun e W' => e = .returned (.bool true) ∧ Below W.heap.size W W' := by
  have H1 := Lib.hid (fun W => pTakeHeader s n hs hnb n1 n2 W)
  have H2 := Lib.hid (fun W => pTakeProof s n hs hnb n1 n2 W)
  have H3 := Lib.hid (fun W => pTakeSay s hs W)
  have H4 := Lib.hid (fun W => pTakeBallot s hs W)
  have H5 := Lib.hid (fun W => pTakeTx s W)
  have O := Po.own s n
  have E1 := Po.takeH_e s n
  have E2 := Po.takeC_e s n
  have E3 := Po.takeSay_e s
  have E4 := Po.takeBallot_e s
  have E5 := Po.takeTx_e s
  generalize Po.takeH s n = R1 at *
  generalize Po.takeC s n = R2 at *
  generalize Po.takeSay s = R3 at *
  generalize Po.takeBallot s = R4 at *
  generalize Po.takeTx s = R5 at *
  obtain ⟨⟨a, r, bs, ps, x, y⟩, f1⟩ := R1
  obtain ⟨⟨⟨a2, r2, bs2, ps2, x2, y2⟩, z2⟩, f2⟩ := R2
  obtain ⟨⟨p0, p1, p2, p3⟩, f3⟩ := R3
  obtain ⟨⟨b0, b1, b2⟩, f4⟩ := R4
  obtain ⟨t0, f5⟩ := R5
  simp only [] at O E1 E2 E3 E4 E5
  obtain ⟨es, hes⟩ : ∃ es : List Nat, [f1, f2, f3, f4, f5] = es := ⟨_, rfl⟩
  have EL : es.length = 5 := by rw [← hes]; rfl
  have EE := Lib.hid (show ∀ e ∈ es, e = 0 ∨ e = 3 by rw [← hes]; intro e he; simp only [List.mem_cons, List.not_mem_nil, or_false] at he; rcases he with rfl | rfl | rfl | rfl | rfl <;> assumption)
  rw [hes] at O
  have OO := Lib.hid O
  have HM := Lib.hid (show es.map (fun e : Nat => Value.int .i64 (e : Int)) = [.int .i64 f1, .int .i64 f2, .int .i64 f3, .int .i64 f4, .int .i64 f5] by rw [← hes]; rfl)
  have HL := Lib.hid EL
  clear hs hnb n1 n2 O E1 E2 E3 E4 E5 hes EL
  go_enter Try.func6, Try.ntmps6
  go_wp2_with fail
  refine (postShown _).mono ?_
  rintro e w1 ⟨rfl, g1⟩
  have G1 := Lib.hid g1
  clear g1
  go_wp2_with fail
  refine (H1.out _).mono ?_
  rintro e w2 ⟨bv, pv, rfl, hb1, hp1, g2⟩
  simp only [] at hb1 hp1
  obtain ⟨m11, m12, rfl⟩ := hb1.at.len
  obtain ⟨m13, m14, rfl⟩ := hp1.at.len
  clear hb1 hp1
  have G2 := Lib.hid (grow_trans G1.out (g2.trans (((Below.refl _ _).alloc (Nat.le_refl _) (.cells #[.int .i64 a, .int .i64 r, .slice m11 bs.length m12, .slice m13 ps.length m14, .int .i64 x, .int .i64 y] 27)).mono g2.size)))
  clear g2
  go_wp2_with fail
  refine (H2.out _).mono ?_
  rintro e w3 ⟨bv, pv, rfl, hb2, hp2, g3⟩
  simp only [] at hb2 hp2
  obtain ⟨m21, m22, rfl⟩ := hb2.at.len
  obtain ⟨m23, m24, rfl⟩ := hp2.at.len
  clear hb2 hp2
  have G3 := Lib.hid (grow_trans G2.out (g3.trans (((Below.refl _ _).alloc (Nat.le_refl _) (.cells #[.int .i64 a2, .int .i64 r2, .slice m21 bs2.length m22, .slice m23 ps2.length m24, .int .i64 x2, .int .i64 y2, .int .u64 z2] 41)).mono g3.size)))
  clear g3
  go_wp2_with fail
  refine (H3.out _).mono ?_
  rintro e w4 ⟨rfl, g4⟩
  have G4 := Lib.hid (grow_trans G3.out (g4.trans (((Below.refl _ _).alloc (Nat.le_refl _) (.cells #[.int .i64 p0, .int .i64 p1, .int .i64 p2, tx p3] 30)).mono g4.size)))
  clear g4
  go_wp2_with fail
  refine (H4.out _).mono ?_
  rintro e w5 ⟨rfl, g5⟩
  have G5 := Lib.hid (grow_trans G4.out (g5.trans (((Below.refl _ _).alloc (Nat.le_refl _) (.cells #[.int .i64 b0, .int .i64 b1, tx b2] 47)).mono g5.size)))
  clear g5
  go_wp2_with fail
  refine (H5.out _).mono ?_
  rintro e w6 ⟨rfl, g6⟩
  have G6 := Lib.hid (grow_trans G5.out g6)
  clear g6
  have Q6 := Lib.hid (by have h := Blk.new w6 34 (es.map (fun e : Nat => Value.int .i64 (e : Int))); rw [HM.out] at h; exact h : Blk (w6.alloc (.cells #[.int .i64 f1, .int .i64 f2, .int .i64 f3, .int .i64 f4, .int .i64 f5] 34)) w6.heap.size 34 [.int .i64 f1, .int .i64 f2, .int .i64 f3, .int .i64 f4, .int .i64 f5])
  have G7 := Lib.hid (grow_trans G6.out ((Below.refl _ _).alloc (Nat.le_refl _) (.cells #[.int .i64 f1, .int .i64 f2, .int .i64 f3, .int .i64 f4, .int .i64 f5] 34)))
  go_wp2_with fail
  go_loopw [1, 17] (fun m i wr => ∃ k : Nat, i = .int .i64 k ∧ k ≤ 5 ∧ m = .int .i64 ((es.take k).count 0 : Nat) ∧ Blk wr w6.heap.size 34 (es.map (fun e : Nat => Value.int .i64 (e : Int))) ∧ Below W.heap.size W wr) (fun _ i _ => 5 - (intOf i).toNat)
  case atStart => exact ⟨0, rfl, by omega, rfl, by rw [HM.out]; exact Q6.out, G7.out⟩
  case round =>
    obtain ⟨k, rfl, hk, rfl, hq, hb⟩ := hrel
    have HQ := Lib.hid hq
    have HB := Lib.hid hb
    clear hq hb
    by_cases hlt : k < 5
    · have hke : k < es.length := by rw [HL.out]; exact hlt
      have c0 := HQ.out.cell k (v := .int .i64 (es[k] : Nat)) (by rw [List.getElem?_map, List.getElem?_eq_getElem hke]; rfl)
      have hT := Lib.hid (show (es.take (k + 1)).count 0 = (es.take k).count 0 + (if es[k] = 0 then 1 else 0) by rw [List.take_succ_eq_append_getElem hke, List.count_append]; simp [List.count_cons])
      have hcl : (es.take k).count 0 ≤ 5 := Nat.le_trans List.count_le_length (by rw [List.length_take]; omega)
      obtain ⟨m, hm⟩ : ∃ m, (es.take k).count 0 = m := ⟨_, rfl⟩
      rw [hm] at hT hcl ⊢
      rcases EE.out _ (List.getElem_mem hke) with h0 | h0
      · rw [h0] at c0
        have hT2 := Lib.hid (hT.out.trans (by rw [if_pos h0]))
        clear hT hm h0
        go_wp2
        go_roundw
        case rel => exact ⟨k + 1, by go_num, by omega, by rw [hT2.out]; go_num, HQ.out, HB.out⟩
        case measure => simp [intOf]; omega
      · rw [h0] at c0
        have hT2 := Lib.hid (hT.out.trans (by rw [if_neg (by omega), Nat.add_zero]))
        clear hT hm h0
        go_wp2
        go_roundw
        case rel => exact ⟨k + 1, by go_num, by omega, by rw [hT2.out], HQ.out, HB.out⟩
        case measure => simp [intOf]; omega
    · obtain rfl : k = 5 := by omega
      have hc : (es.take 5).count 0 ≤ 1 := by rw [List.take_of_length_le (by rw [HL.out]; exact Nat.le_refl _)]; exact OO.out
      obtain ⟨m, hm⟩ : ∃ m, (es.take 5).count 0 = m := ⟨_, rfl⟩
      rw [hm] at hc ⊢
      have t1 : decide ((m : Int) ≤ 1) = true := decide_eq_true (by omega)
      clear hm
      go_wp2
      go_ret
      exact ⟨rfl, HB.out⟩

theorem postOwn_walk {H : Type} (enc : TypeId × Value → H) (W : World) (base : Nat) (v0 : Value) (v1 : Value) (d0 : DataW H) (d1 : DataW H) (p0 : List MemPlace) (p1 : List MemPlace)
    (h0 : DataW.Trod enc Try.prog W 0 (fun _ => true) true 9 v0 d0 p0) (o0 : Value.okWide Try.prog W .any base 9 v0)
    (h1 : DataW.Trod enc Try.prog W 0 (fun _ => true) true 3 v1 d1 p1) (o1 : Value.okWide Try.prog W .any base 3 v1)
    (_hsz : (DataW.weightsEach Try.prog [9, 3] [d0, d1]).all (· ≤ reachBytes) = true) (hk : Rows.uptoSmall H [d0, d1] = true) :
    Calls Try.prog 6 #[v0, v1] W fun e W' => e = .returned (.bool true) ∧ Below W.heap.size W W' := by
  obtain ⟨t, rfl, rfl, rfl⟩ := open_tx Try.underlying9 o0 h0
  obtain ⟨n, n1, n2, rfl, rfl, rfl⟩ := open_i64 Try.underlying3 o1 h1
  have hb : t.length ≤ 4294967296 := by
    have hb : Rows.uptoBulkAll [DataW.lit (.string t), DataW.lit (.int .i64 n)] ≤ 1048576 := of_decide_eq_true hk
    simp only [Rows.uptoBulkAll, Rows.uptoBulk] at hb
    omega
  exact postOwn_core t n (by omega) (.inr hb) n1 n2 W
end Go.Proofs.Ytbkpekpajeaacaa
