/- A state behind a block, as the program makes it. -/
import Derived.Test.YtkkiedmcpibnaaaDoorShaSched
import Derived.Test.YtkkiedmcpibnaaaDoorKeep
namespace Sh
theorem words_lt : ∀ i, words.getD i 0 < 4294967296 := getD_lt _ (by decide)
theorem words_len : words.length = 64 := by decide
def Ok (s : St) : Prop := s.1 < 4294967296 ∧ s.2.1 < 4294967296 ∧ s.2.2.1 < 4294967296 ∧ s.2.2.2.1 < 4294967296 ∧ s.2.2.2.2.1 < 4294967296 ∧ s.2.2.2.2.2.1 < 4294967296 ∧ s.2.2.2.2.2.2.1 < 4294967296 ∧ s.2.2.2.2.2.2.2 < 4294967296
theorem step_ok (s : St) (x y : Nat) (h : Ok s) : Ok (step s x y) := by
  obtain ⟨a, b, c, d, e, f, g, k⟩ := s
  obtain ⟨h1, h2, h3, h4, h5, h6, h7, h8⟩ := h
  exact ⟨add_lt _ _, h1, h2, h3, add_lt _ _, h5, h6, h7⟩
theorem rounds_ok (s : St) (w : List Nat) (h : Ok s) : ∀ n, Ok (rounds s w n) := by
  intro n
  induction n with
  | zero => exact h
  | succ n ih => exact step_ok _ _ _ ih
end Sh
namespace Go.Proofs.YtkkiedmcpibnaaaDoor
open Go.RowKit

/-- The constants lie where they lie. -/
def GW (W : World) : Prop := ∀ i, i < 64 → W.cell? ⟨0, i, none⟩ = some (uv (Sh.words.getD i 0))
theorem GW.below {w w' : World} (h : GW w) (hb : Below w.heap.size w w') : GW w' := fun i hi => below_cell hb (h i hi)

theorem and_lt {a b : Nat} (ha : a < 4294967296) : a &&& b < 4294967296 := Nat.lt_of_le_of_lt Nat.and_le_left ha
theorem big1_bits (e : Nat) (h : e < 4294967296) : bits .xor .u32 (bits .xor .u32 (Sh.rot e 6 : Int) (Sh.rot e 11 : Int)) (Sh.rot e 25 : Int) = (Sh.big1 e : Int) := by
  have h1 := Sh.rot_lt e 6 h (by decide)
  have h2 := Sh.rot_lt e 11 h (by decide)
  have h3 := Sh.rot_lt e 25 h (by decide)
  rw [u32_xor_nat _ _ h1 h2, u32_xor_nat _ _ (xor_lt h1 h2) h3]
  rfl
theorem big0_bits (a : Nat) (h : a < 4294967296) : bits .xor .u32 (bits .xor .u32 (Sh.rot a 2 : Int) (Sh.rot a 13 : Int)) (Sh.rot a 22 : Int) = (Sh.big0 a : Int) := by
  have h1 := Sh.rot_lt a 2 h (by decide)
  have h2 := Sh.rot_lt a 13 h (by decide)
  have h3 := Sh.rot_lt a 22 h (by decide)
  rw [u32_xor_nat _ _ h1 h2, u32_xor_nat _ _ (xor_lt h1 h2) h3]
  rfl
theorem maj_bits (a b c : Nat) (ha : a < 4294967296) (hb : b < 4294967296) (hc : c < 4294967296) :
    bits .xor .u32 (bits .xor .u32 (bits .and .u32 (a : Int) (b : Int)) (bits .and .u32 (a : Int) (c : Int))) (bits .and .u32 (b : Int) (c : Int)) = (Sh.maj a b c : Int) := by
  rw [u32_and_nat _ _ ha hb, u32_and_nat _ _ ha hc, u32_and_nat _ _ hb hc, u32_xor_nat _ _ (and_lt ha) (and_lt ha), u32_xor_nat _ _ (xor_lt (and_lt ha) (and_lt ha)) (and_lt hb)]
  rfl

theorem not_bits (e : Nat) (h : e < 4294967296) : bits .xor .u32 4294967295 (e : Int) = ((4294967295 - e : Nat) : Int) := by
  have e1 : (4294967295 : Int) = ((4294967295 : Nat) : Int) := rfl
  rw [e1, u32_xor_nat _ _ (by decide) h]
  have h2 : (BitVec.allOnes 32 ^^^ BitVec.ofNat 32 e).toNat = (~~~ BitVec.ofNat 32 e).toNat := by rw [BitVec.allOnes_xor]
  rw [BitVec.toNat_xor, BitVec.toNat_not, BitVec.toNat_ofNat, Nat.mod_eq_of_lt (show e < 2 ^ 32 from h)] at h2
  have h3 : (BitVec.allOnes 32).toNat = 4294967295 := by decide
  rw [h3] at h2
  rw [h2]
theorem tt_bits (se sf sg sk kv wv : Nat) (le : se < 4294967296) (lf : sf < 4294967296) (lg : sg < 4294967296) :
    (((sk : Int) + bits .xor .u32 (bits .xor .u32 (Sh.rot se 6 : Int) (Sh.rot se 11 : Int)) (Sh.rot se 25 : Int) +
      bits .xor .u32 (bits .and .u32 (se : Int) (sf : Int)) (bits .and .u32 (bits .xor .u32 4294967295 (se : Int)) (sg : Int)) + (kv : Int)) % 4294967296 + (wv : Int)) % 4294967296 = ((Sh.tt se sf sg sk kv wv : Nat) : Int) := by
  rw [big1_bits se le, not_bits se le, u32_and_nat _ _ le lf, u32_and_nat _ _ (by omega) lg, u32_xor_nat _ _ (and_lt le) (and_lt (by omega))]
  have : (se &&& sf) ^^^ ((4294967295 - se) &&& sg) = Sh.ch se sf sg := rfl
  rw [this]
  simp only [Sh.tt, Sh.add]
  omega
theorem uu_bits (sa sb sc : Nat) (la : sa < 4294967296) (lb : sb < 4294967296) (lc : sc < 4294967296) :
    (bits .xor .u32 (bits .xor .u32 (Sh.rot sa 2 : Int) (Sh.rot sa 13 : Int)) (Sh.rot sa 22 : Int) + bits .xor .u32 (bits .xor .u32 (bits .and .u32 (sa : Int) (sb : Int)) (bits .and .u32 (sa : Int) (sc : Int))) (bits .and .u32 (sb : Int) (sc : Int))) % 4294967296 = ((Sh.uu sa sb sc : Nat) : Int) := by
  rw [big0_bits sa la, maj_bits sa sb sc la lb lc]
  simp only [Sh.uu, Sh.add]
  omega
theorem pright_three (x : Nat) (n : Int) (hx : x < 4294967296) (h : n = 6 ∨ n = 11 ∨ n = 25) (w : World) :
    Calls Tryd.prog 55 #[uv x, .int .i64 n] w fun e w' => e = .returned (uv (Sh.rot x n.toNat)) ∧ w' = w := by
  rcases h with rfl | rfl | rfl
  · exact pright6 x hx w
  · exact pright11 x hx w
  · exact pright25 x hx w

theorem idx8_0 (sa sb sc sd se sf sg sk : Nat) (W : World) : (Instr.index 63 (.agg #[uv sa, uv sb, uv sc, uv sd, uv se, uv sf, uv sg, uv sk]) (.int .i64 0)).run Tryd.prog W = .ok (uv sa) W := by kernel_rfl
theorem idx8_1 (sa sb sc sd se sf sg sk : Nat) (W : World) : (Instr.index 63 (.agg #[uv sa, uv sb, uv sc, uv sd, uv se, uv sf, uv sg, uv sk]) (.int .i64 1)).run Tryd.prog W = .ok (uv sb) W := by kernel_rfl
theorem idx8_2 (sa sb sc sd se sf sg sk : Nat) (W : World) : (Instr.index 63 (.agg #[uv sa, uv sb, uv sc, uv sd, uv se, uv sf, uv sg, uv sk]) (.int .i64 2)).run Tryd.prog W = .ok (uv sc) W := by kernel_rfl
theorem idx8_3 (sa sb sc sd se sf sg sk : Nat) (W : World) : (Instr.index 63 (.agg #[uv sa, uv sb, uv sc, uv sd, uv se, uv sf, uv sg, uv sk]) (.int .i64 3)).run Tryd.prog W = .ok (uv sd) W := by kernel_rfl
theorem idx8_4 (sa sb sc sd se sf sg sk : Nat) (W : World) : (Instr.index 63 (.agg #[uv sa, uv sb, uv sc, uv sd, uv se, uv sf, uv sg, uv sk]) (.int .i64 4)).run Tryd.prog W = .ok (uv se) W := by kernel_rfl
theorem idx8_5 (sa sb sc sd se sf sg sk : Nat) (W : World) : (Instr.index 63 (.agg #[uv sa, uv sb, uv sc, uv sd, uv se, uv sf, uv sg, uv sk]) (.int .i64 5)).run Tryd.prog W = .ok (uv sf) W := by kernel_rfl
theorem idx8_6 (sa sb sc sd se sf sg sk : Nat) (W : World) : (Instr.index 63 (.agg #[uv sa, uv sb, uv sc, uv sd, uv se, uv sf, uv sg, uv sk]) (.int .i64 6)).run Tryd.prog W = .ok (uv sg) W := by kernel_rfl
theorem idx8_7 (sa sb sc sd se sf sg sk : Nat) (W : World) : (Instr.index 63 (.agg #[uv sa, uv sb, uv sc, uv sd, uv se, uv sf, uv sg, uv sk]) (.int .i64 7)).run Tryd.prog W = .ok (uv sk) W := by kernel_rfl

set_option maxHeartbeats 1000000 in
set_option maxRecDepth 100000 in
theorem pblock8 (a b c d e f g k : Nat) (hok : Sh.Ok (a, b, c, d, e, f, g, k)) (bl : List UInt8) (hb : bl.length = 64) (w : World) (hw : GW w) :
    Calls Tryd.prog 44 #[.agg #[uv a, uv b, uv c, uv d, uv e, uv f, uv g, uv k], tx bl] w fun ee w' => ee = .returned (.tuple #[.agg ((Sh.block [a, b, c, d, e, f, g, k] bl).map uv).toArray, .int .i64 0]) ∧ Below w.heap.size w w' := by
  have t1 : ((bl.length : Int) != 64) = false := by rw [hb]; decide
  have HSL := Lib.hid (Sh.sched_len bl)
  have HLT := Lib.hid (Sh.sched_lt bl)
  have hcall := Lib.hid (fun W => psched bl hb W)
  have GWH := Lib.hid hw
  clear hw hb
  have hbox : ARow (w.alloc (.cells #[uv a, uv b, uv c, uv d, uv e, uv f, uv g, uv k] 63)) w.heap.size 63 [a, b, c, d, e, f, g, k] := ARow.new w 63 [a, b, c, d, e, f, g, k]
  have hbox2 := hbox.alloc (.cells #[.int .u32 0, .int .u32 0, .int .u32 0, .int .u32 0, .int .u32 0, .int .u32 0, .int .u32 0, .int .u32 0] 63)
  have hres : ARow ((w.alloc (.cells #[uv a, uv b, uv c, uv d, uv e, uv f, uv g, uv k] 63)).alloc (.cells #[.int .u32 0, .int .u32 0, .int .u32 0, .int .u32 0, .int .u32 0, .int .u32 0, .int .u32 0, .int .u32 0] 63)) (w.heap.size + 1) 63 (List.replicate 8 0) := by
    have := ARow.new (w.alloc (.cells #[uv a, uv b, uv c, uv d, uv e, uv f, uv g, uv k] 63)) 63 (List.replicate 8 0)
    simp only [World.size_alloc] at this
    exact this
  have hg0 : Below w.heap.size w ((w.alloc (.cells #[uv a, uv b, uv c, uv d, uv e, uv f, uv g, uv k] 63)).alloc (.cells #[.int .u32 0, .int .u32 0, .int .u32 0, .int .u32 0, .int .u32 0, .int .u32 0, .int .u32 0, .int .u32 0] 63)) := ((Below.refl _ _).alloc (Nat.le_refl _) _).alloc (by simp) _
  have HX := Lib.hid hbox2
  have HS := Lib.hid hres
  have HG := Lib.hid hg0
  clear hbox hbox2 hres hg0
  go_enter Tryd.func44, Tryd.ntmps44
  go_wp2_with fail
  refine (hcall.out _).mono ?_
  rintro ee w1 ⟨rfl, hb1⟩
  obtain ⟨ws, hws⟩ : ∃ ws, Sh.sched bl = ws := ⟨_, rfl⟩
  rw [hws] at HSL HLT ⊢
  have hx1 := HX.out.kept hb1
  have hs1 := HS.out.kept hb1
  have hz := ARow.new w1 80 (List.replicate 64 0)
  have hx2 := hx1.alloc (.cells ((List.replicate 64 0).map uv).toArray 80)
  have hs2 := hs1.alloc (.cells ((List.replicate 64 0).map uv).toArray 80)
  have hB1 : Below w.heap.size w w1 := HG.out.trans (hb1.mono (by simp; omega))
  have hB2 := hB1.alloc hB1.size (.cells ((List.replicate 64 0).map uv).toArray 80)
  have hsz : w.heap.size + 1 < w1.heap.size := hs1.lt
  have HX2 := Lib.hid hx2
  have HS2 := Lib.hid hs2
  have HB2 := Lib.hid hB2
  have HZ := Lib.hid hz
  have HWS := Lib.hid hws
  clear hx1 hs1 hz hx2 hs2 hB1 hB2 hws hb1 HX HS HG
  go_wp2_with (refine store_arow rfl 80 _ _ rfl w1.heap.size (List.replicate 64 0) ws rfl rfl HZ.out 64 info64 (by simp) HSL.out ?_; intro w2 hw1 hw2 hw3)
  dsimp only [Act.put]
  have HX3 := Lib.hid (hw3 w.heap.size _ _ (by omega) HX2.out)
  have HS3 := Lib.hid (hw3 (w.heap.size + 1) _ _ (by omega) HS2.out)
  have HB3 := Lib.hid (hw2 w.heap.size w (by omega) HB2.out)
  have HW3 := Lib.hid hw1
  have GW3 := Lib.hid (GWH.out.below HB3.out)
  clear hw1 hw2 hw3 HX2 HS2 HB2 HZ
  have c0 : w2.cell? ⟨w.heap.size, 0, none⟩ = some (uv a) := HX3.out.cell 0 (by simp)
  have c1 : w2.cell? ⟨w.heap.size, 1, none⟩ = some (uv b) := HX3.out.cell 1 (by simp)
  have c2 : w2.cell? ⟨w.heap.size, 2, none⟩ = some (uv c) := HX3.out.cell 2 (by simp)
  have c3 : w2.cell? ⟨w.heap.size, 3, none⟩ = some (uv d) := HX3.out.cell 3 (by simp)
  have c4 : w2.cell? ⟨w.heap.size, 4, none⟩ = some (uv e) := HX3.out.cell 4 (by simp)
  have c5 : w2.cell? ⟨w.heap.size, 5, none⟩ = some (uv f) := HX3.out.cell 5 (by simp)
  have c6 : w2.cell? ⟨w.heap.size, 6, none⟩ = some (uv g) := HX3.out.cell 6 (by simp)
  have c7 : w2.cell? ⟨w.heap.size, 7, none⟩ = some (uv k) := HX3.out.cell 7 (by simp)
  go_quiet (fail)
  go_wp2_with fail
  clear c0 c1 c2 c3 c4 c5 c6 c7
  have HX4 := Lib.hid (HX3.out.draw nq)
  have HS4 := Lib.hid (HS3.out.draw nq)
  have HB4 := Lib.hid (below_drewN HB3.out nq)
  have HW4 := Lib.hid (HW3.out.draw nq)
  have GW4 := Lib.hid (show GW (w2.drewN nq) from GW3.out)
  clear HX3 HS3 HB3 HW3 GW3
  generalize w2.drewN nq = w3 at *
  go_loopw [7, 8, 9, 10, 11, 12, 13, 14, 15, 16, 17, 42] (fun ta tb tc td te tf tg tk _ _ _ i wr => ∃ (n : Nat) (s : Sh.St), i = .int .i64 n ∧ n ≤ 64 ∧ s = Sh.rounds (a, b, c, d, e, f, g, k) ws n ∧ ta = uv s.1 ∧ tb = uv s.2.1 ∧ tc = uv s.2.2.1 ∧ td = uv s.2.2.2.1 ∧ te = uv s.2.2.2.2.1 ∧ tf = uv s.2.2.2.2.2.1 ∧ tg = uv s.2.2.2.2.2.2.1 ∧ tk = uv s.2.2.2.2.2.2.2 ∧ ∃ q, wr = w3.drewN q) (fun _ _ _ _ _ _ _ _ _ _ _ i _ => 64 - (intOf i).toNat)
  case atStart => exact ⟨0, _, rfl, by omega, rfl, rfl, rfl, rfl, rfl, rfl, rfl, rfl, rfl, 0, rfl⟩
  case round =>
    obtain ⟨n, s, rfl, hn, hs, rfl, rfl, rfl, rfl, rfl, rfl, rfl, rfl, q, rfl⟩ := hrel
    by_cases hlt : n < 64
    · have hok2 := Sh.rounds_ok (a, b, c, d, e, f, g, k) ws hok n
      rw [← hs] at hok2
      obtain ⟨sa, sb, sc, sd, se, sf, sg, sk⟩ := s
      obtain ⟨la, lb, lc, ld, le, lf, lg, lk⟩ := hok2
      simp only [] at la lb lc ld le lf lg lk
      have hwn := (HW4.out.draw q).cell n (by rw [HSL.out]; exact hlt)
      have hwl : ws[n]'(by rw [HSL.out]; exact hlt) < 4294967296 := HLT.out _ (List.getElem_mem _)
      have hgn : (w3.drewN q).cell? ⟨0, n, none⟩ = some (uv (Sh.words.getD n 0)) := GW4.out n hlt
      have hkl := Sh.words_lt n
      obtain ⟨wv, hwv⟩ : ∃ x, ws[n]'(by rw [HSL.out]; exact hlt) = x := ⟨_, rfl⟩
      obtain ⟨kv, hkv⟩ : ∃ x, Sh.words.getD n 0 = x := ⟨_, rfl⟩
      rw [hwv] at hwn hwl
      rw [hkv] at hgn hkl
      have HS1 := Lib.hid hs
      have HWV := Lib.hid hwv
      have HKV := Lib.hid hkv
      clear hs hwv hkv
      obtain ⟨wq, hq⟩ : ∃ x, w3.drewN q = x := ⟨_, rfl⟩
      rw [hq] at hwn hgn ⊢
      have HQ := Lib.hid hq
      clear hq
      have HTT := Lib.hid (tt_bits se sf sg sk kv wv le lf lg)
      obtain ⟨T, hT⟩ : ∃ T, Sh.tt se sf sg sk kv wv = T := ⟨_, rfl⟩
      rw [hT] at HTT
      have HT := Lib.hid hT
      clear hT
      have hif : (if IntKind.u32.signed = true then (-1 : Int) else IntKind.u32.max) = 4294967295 := by decide
      have w1' : (0 : Int) ≤ (n : Int) := by omega
      have w2' : (n : Int) < 64 := by omega
      go_wp2_with fail
      go_quiet ((go_at_call 55; exact Calls.quiet_of_same (pright_three se _ le (by simp) _)))
      rw [HTT.out]
      go_wp2_with fail
      refine (pright2 sa la _).mono ?_
      rintro ee v1 ⟨rfl, rfl⟩
      go_wp2_with fail
      refine (pright13 sa la _).mono ?_
      rintro ee v1 ⟨rfl, rfl⟩
      go_wp2_with fail
      refine (pright22 sa la _).mono ?_
      rintro ee v1 ⟨rfl, rfl⟩
      go_wp2
      go_roundw
      case rel =>
        have e1 : ws.getD n 0 = wv := by rw [List.getD, List.getElem?_eq_getElem (by rw [HSL.out]; exact hlt)]; exact HWV.out
        refine ⟨n + 1, (Sh.add T (Sh.uu sa sb sc), sa, sb, sc, Sh.add sd T, se, sf, sg), by go_num, by omega, ?_, ?_, rfl, rfl, rfl, ?_, rfl, rfl, rfl, q + nq, ?_⟩
        · rw [Sh.rounds, ← HS1.out, HKV.out, e1, ← HT.out]; rfl
        · rw [uu_bits sa sb sc la lb lc]; simp [uv, Sh.add]
        · simp [uv, Sh.add]
        · rw [← HQ.out, World.drewN_drewN]
      case measure => simp [intOf]; omega
    · obtain rfl : n = 64 := by omega
      have hok2 := Sh.rounds_ok (a, b, c, d, e, f, g, k) ws hok 64
      rw [← hs] at hok2
      obtain ⟨sa, sb, sc, sd, se, sf, sg, sk⟩ := s
      have HSB := Lib.hid (show Sh.block [a, b, c, d, e, f, g, k] bl = [Sh.add a sa, Sh.add b sb, Sh.add c sc, Sh.add d sd, Sh.add e se, Sh.add f sf, Sh.add g sg, Sh.add k sk] by
        rw [Sh.block, HWS.out, show Sh.ofL [a, b, c, d, e, f, g, k] = (a, b, c, d, e, f, g, k) from rfl, ← hs]; rfl)
      have HX5 := Lib.hid (HX4.out.draw q)
      have HS5 := Lib.hid (HS4.out.draw q)
      have HB5 := Lib.hid (below_drewN HB4.out q)
      clear hs hok2 HX4 HS4 HB4 HW4 GW4
      generalize w3.drewN q = w5 at *
      have c0 : w5.cell? ⟨w.heap.size, 0, none⟩ = some (uv a) := HX5.out.cell 0 (by simp)
      have c1 : w5.cell? ⟨w.heap.size, 1, none⟩ = some (uv b) := HX5.out.cell 1 (by simp)
      have c2 : w5.cell? ⟨w.heap.size, 2, none⟩ = some (uv c) := HX5.out.cell 2 (by simp)
      have c3 : w5.cell? ⟨w.heap.size, 3, none⟩ = some (uv d) := HX5.out.cell 3 (by simp)
      have c4 : w5.cell? ⟨w.heap.size, 4, none⟩ = some (uv e) := HX5.out.cell 4 (by simp)
      have c5 : w5.cell? ⟨w.heap.size, 5, none⟩ = some (uv f) := HX5.out.cell 5 (by simp)
      have c6 : w5.cell? ⟨w.heap.size, 6, none⟩ = some (uv g) := HX5.out.cell 6 (by simp)
      have c7 : w5.cell? ⟨w.heap.size, 7, none⟩ = some (uv k) := HX5.out.cell 7 (by simp)
      have f0 := HX5.out.frozen 0
      have f1 := HX5.out.frozen 1
      have f2 := HX5.out.frozen 2
      have f3 := HX5.out.frozen 3
      have f4 := HX5.out.frozen 4
      have f5 := HX5.out.frozen 5
      have f6 := HX5.out.frozen 6
      have f7 := HX5.out.frozen 7
      have i0 := fun W => idx8_0 sa sb sc sd se sf sg sk W
      have i1 := fun W => idx8_1 sa sb sc sd se sf sg sk W
      have i2 := fun W => idx8_2 sa sb sc sd se sf sg sk W
      have i3 := fun W => idx8_3 sa sb sc sd se sf sg sk W
      have i4 := fun W => idx8_4 sa sb sc sd se sf sg sk W
      have i5 := fun W => idx8_5 sa sb sc sd se sf sg sk W
      have i6 := fun W => idx8_6 sa sb sc sd se sf sg sk W
      have i7 := fun W => idx8_7 sa sb sc sd se sf sg sk W
      go_wp2_with fail
      refine wp_loop_rounds 9 ?_
      rw [rounds_succ]
      go_wp2
      rw [rounds_succ]
      go_wp2
      rw [rounds_succ]
      go_wp2
      rw [rounds_succ]
      go_wp2
      rw [rounds_succ]
      go_wp2
      rw [rounds_succ]
      go_wp2
      rw [rounds_succ]
      go_wp2
      rw [rounds_succ]
      go_wp2
      have ea : uv (Sh.add a sa) = Value.int .u32 ((((a : Nat) : Int) + ((sa : Nat) : Int)) % 4294967296) := by simp [uv, Sh.add]
      have eb : uv (Sh.add b sb) = Value.int .u32 ((((b : Nat) : Int) + ((sb : Nat) : Int)) % 4294967296) := by simp [uv, Sh.add]
      have ec : uv (Sh.add c sc) = Value.int .u32 ((((c : Nat) : Int) + ((sc : Nat) : Int)) % 4294967296) := by simp [uv, Sh.add]
      have ed : uv (Sh.add d sd) = Value.int .u32 ((((d : Nat) : Int) + ((sd : Nat) : Int)) % 4294967296) := by simp [uv, Sh.add]
      have ee : uv (Sh.add e se) = Value.int .u32 ((((e : Nat) : Int) + ((se : Nat) : Int)) % 4294967296) := by simp [uv, Sh.add]
      have ef : uv (Sh.add f sf) = Value.int .u32 ((((f : Nat) : Int) + ((sf : Nat) : Int)) % 4294967296) := by simp [uv, Sh.add]
      have eg : uv (Sh.add g sg) = Value.int .u32 ((((g : Nat) : Int) + ((sg : Nat) : Int)) % 4294967296) := by simp [uv, Sh.add]
      have ek : uv (Sh.add k sk) = Value.int .u32 ((((k : Nat) : Int) + ((sk : Nat) : Int)) % 4294967296) := by simp [uv, Sh.add]
      have x8 := ((((((((HX5.out.set 0 (Sh.add a sa)).set 1 (Sh.add b sb)).set 2 (Sh.add c sc)).set 3 (Sh.add d sd)).set 4 (Sh.add e se)).set 5 (Sh.add f sf)).set 6 (Sh.add g sg)).set 7 (Sh.add k sk))
      have s8 := ((((((((HS5.out.other w.heap.size 0 (uv (Sh.add a sa)) (by omega)).other w.heap.size 1 (uv (Sh.add b sb)) (by omega)).other w.heap.size 2 (uv (Sh.add c sc)) (by omega)).other w.heap.size 3 (uv (Sh.add d sd)) (by omega)).other w.heap.size 4 (uv (Sh.add e se)) (by omega)).other w.heap.size 5 (uv (Sh.add f sf)) (by omega)).other w.heap.size 6 (uv (Sh.add g sg)) (by omega)).other w.heap.size 7 (uv (Sh.add k sk)) (by omega))
      have b8 := ((((((((HB5.out.setCell (p := ⟨w.heap.size, 0, none⟩) (Nat.le_refl _) (uv (Sh.add a sa))).setCell (p := ⟨w.heap.size, 1, none⟩) (Nat.le_refl _) (uv (Sh.add b sb))).setCell (p := ⟨w.heap.size, 2, none⟩) (Nat.le_refl _) (uv (Sh.add c sc))).setCell (p := ⟨w.heap.size, 3, none⟩) (Nat.le_refl _) (uv (Sh.add d sd))).setCell (p := ⟨w.heap.size, 4, none⟩) (Nat.le_refl _) (uv (Sh.add e se))).setCell (p := ⟨w.heap.size, 5, none⟩) (Nat.le_refl _) (uv (Sh.add f sf))).setCell (p := ⟨w.heap.size, 6, none⟩) (Nat.le_refl _) (uv (Sh.add g sg))).setCell (p := ⟨w.heap.size, 7, none⟩) (Nat.le_refl _) (uv (Sh.add k sk)))
      simp only [ea, eb, ec, ed, ee, ef, eg, ek] at x8 s8 b8
      have x9 : ARow _ w.heap.size 63 [Sh.add a sa, Sh.add b sb, Sh.add c sc, Sh.add d sd, Sh.add e se, Sh.add f sf, Sh.add g sg, Sh.add k sk] := x8
      have HX9 := Lib.hid x9
      have HS9 := Lib.hid s8
      have HB9 := Lib.hid b8
      clear x8 x9 s8 b8 c0 c1 c2 c3 c4 c5 c6 c7 f0 f1 f2 f3 f4 f5 f6 f7
      rw [rounds_succ]
      go_wp2_with (first
        | (refine load_arow rfl 63 _ rfl w.heap.size _ rfl HX9.out 8 62 Tryd.underlying63 info8 rfl ?_)
        | (refine store_arow rfl 63 _ _ rfl (w.heap.size + 1) (List.replicate 8 0) _ rfl rfl HS9.out 8 info8 (by simp) rfl ?_; intro w9 k1 k2 k3))
      have d0 : w9.cell? ⟨w.heap.size + 1, 0, none⟩ = some (uv (Sh.add a sa)) := k1.cell 0 (by simp)
      have d1 : w9.cell? ⟨w.heap.size + 1, 1, none⟩ = some (uv (Sh.add b sb)) := k1.cell 1 (by simp)
      have d2 : w9.cell? ⟨w.heap.size + 1, 2, none⟩ = some (uv (Sh.add c sc)) := k1.cell 2 (by simp)
      have d3 : w9.cell? ⟨w.heap.size + 1, 3, none⟩ = some (uv (Sh.add d sd)) := k1.cell 3 (by simp)
      have d4 : w9.cell? ⟨w.heap.size + 1, 4, none⟩ = some (uv (Sh.add e se)) := k1.cell 4 (by simp)
      have d5 : w9.cell? ⟨w.heap.size + 1, 5, none⟩ = some (uv (Sh.add f sf)) := k1.cell 5 (by simp)
      have d6 : w9.cell? ⟨w.heap.size + 1, 6, none⟩ = some (uv (Sh.add g sg)) := k1.cell 6 (by simp)
      have d7 : w9.cell? ⟨w.heap.size + 1, 7, none⟩ = some (uv (Sh.add k sk)) := k1.cell 7 (by simp)
      refine bodyPost_ret (v := .tuple #[.agg #[uv (Sh.add a sa), uv (Sh.add b sb), uv (Sh.add c sc), uv (Sh.add d sd), uv (Sh.add e se), uv (Sh.add f sf), uv (Sh.add g sg), uv (Sh.add k sk)], .int .i64 0]) (by simp [results, Tryd.results44, go_sem, d0, d1, d2, d3, d4, d5, d6, d7]) rfl ⟨by rw [HSB.out]; rfl, k2 _ _ (by omega) HB9.out⟩
end Go.Proofs.YtkkiedmcpibnaaaDoor
