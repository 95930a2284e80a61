/- A text's digest, as the program makes it. -/
import Derived.Test.YtkkiedmcpibnaaaDoorShaSpell
import Derived.StillTailTactics
namespace Sh
theorem pad_len (s : List UInt8) : (pad s).length = s.length + 9 + zeros s.length := by simp [pad, be8_len]; omega
theorem pad_64 (s : List UInt8) : (pad s).length % 64 = 0 := by rw [pad_len, zeros]; omega
theorem block_lt (h : List Nat) (b : List UInt8) : ∀ x ∈ block h b, x < 4294967296 := by
  intro x hx
  unfold block at hx
  generalize toL (rounds (ofL h) (sched b) 64) = ys at hx
  induction h generalizing ys with
  | nil => simp at hx
  | cons a h ih =>
    cases ys with
    | nil => simp at hx
    | cons y ys =>
      rw [List.zipWith_cons_cons, List.mem_cons] at hx
      rcases hx with rfl | hx
      · exact add_lt _ _
      · exact ih ys hx
theorem after_len (p : List UInt8) : ∀ n, (after p n).length = 8 := by
  intro n
  induction n with
  | zero => rfl
  | succ n ih =>
    rw [after, block, List.length_zipWith, ih]
    rfl
theorem after_lt (p : List UInt8) : ∀ n, ∀ x ∈ after p n, x < 4294967296 := by
  intro n
  cases n with
  | zero => show ∀ x ∈ first, x < 4294967296; decide
  | succ n => exact block_lt _ _
theorem eight (l : List Nat) (h : l.length = 8) : ∃ a b c d e f g k, l = [a, b, c, d, e, f, g, k] := by
  match l, h with
  | [a, b, c, d, e, f, g, k], _ => exact ⟨a, b, c, d, e, f, g, k, rfl⟩
theorem after_ok (p : List UInt8) (n : Nat) (a b c d e f g k : Nat) (h : after p n = [a, b, c, d, e, f, g, k]) : Ok (a, b, c, d, e, f, g, k) := by
  have := after_lt p n
  rw [h] at this
  refine ⟨this a ?_, this b ?_, this c ?_, this d ?_, this e ?_, this f ?_, this g ?_, this k ?_⟩ <;> simp
end Sh
namespace Go.Proofs.YtkkiedmcpibnaaaDoor
open Go.RowKit

theorem ba_mid (r : List UInt8) (i j : Nat) : (ByteArray.mk r.toArray).extract i j = ByteArray.mk ((r.drop i).take (j - i)).toArray := by
  apply ByteArray.ext
  apply Array.toList_inj.1
  rw [Lib.extract_data]

set_option maxHeartbeats 1000000 in
theorem pfirst (w : World) : Calls Tryd.prog 42 #[] w fun e w' => e = .returned (.agg (Sh.first.map uv).toArray) ∧ Below w.heap.size w w' := by
  go_enter Tryd.func42, Tryd.ntmps42
  go_wp2
  refine bodyPost_ret (v := .agg (Sh.first.map uv).toArray) (by simp [results, Tryd.results42, go_sem, Sh.first, uv]) rfl ⟨rfl, (Below.refl _ _).alloc (Nat.le_refl _) _⟩

set_option maxHeartbeats 2000000 in
set_option maxRecDepth 100000 in
theorem psum (s : List UInt8) (hs : s.length ≤ 140737488351232) (w : World) (hw : GW w) :
    Calls Tryd.prog 34 #[tx s] w fun e w' => e = .returned (tx (Sh.sum s)) ∧ Below w.heap.size w w' := by
  obtain ⟨p, hp⟩ : ∃ p, Sh.pad s = p := ⟨_, rfl⟩
  have hp64 := Sh.pad_64 s
  have hpl := Sh.pad_len s
  have hz := Sh.zeros_lt s.length
  rw [hp] at hp64 hpl
  obtain ⟨N, hN⟩ : ∃ N, p.length = 64 * N := ⟨p.length / 64, by omega⟩
  have HSM := Lib.hid (show Sh.sum s = Sh.spell (Sh.after p N) by rw [Sh.sum, hp, hN, Nat.mul_div_cancel_left _ (by decide)])
  have HPD := Lib.hid (show ∀ W, Calls Tryd.prog 43 #[tx s] W fun e w' => e = .returned (tx p) ∧ Below W.heap.size W w' by rw [← hp]; exact fun W => ppad s hs W)
  have HGW := Lib.hid hw
  have hNb : p.length ≤ 140737488351304 := by omega
  have HN := Lib.hid hN
  clear hp hp64 hpl hz hw hs hN
  go_enter Tryd.func34, Tryd.ntmps34
  go_wp2_with fail
  refine (pfirst _).mono ?_
  rintro e w1 ⟨rfl, hb1⟩
  go_wp2_with fail
  refine (HPD.out _).mono ?_
  rintro e w2 ⟨rfl, hb2⟩
  have hx := ARow.new w2 63 (List.replicate 8 0)
  have HX0 := Lib.hid hx
  have HB0 := Lib.hid ((grow_trans hb1 hb2).alloc (grow_trans hb1 hb2).size (.cells ((List.replicate 8 0).map uv).toArray 63))
  have hB0 : w.heap.size ≤ w2.heap.size := (grow_trans hb1 hb2).size
  clear hx hb1 hb2
  go_wp2_with (refine store_arow rfl 63 _ _ rfl w2.heap.size (List.replicate 8 0) Sh.first rfl rfl HX0.out 8 info8 (by simp) rfl ?_; intro w3 k1 k2 k3)
  have HX := Lib.hid k1
  have HB := Lib.hid (k2 w.heap.size w hB0 HB0.out)
  clear k1 k2 k3 HX0 HB0
  go_loopw [5] (fun i wr => ∃ (n m : Nat), i = .int .i64 m ∧ n ≤ N ∧ m = 64 * n ∧ ARow wr w2.heap.size 63 (Sh.after p n) ∧ Below w.heap.size w wr) (fun i _ => 64 * N - (intOf i).toNat)
  case atStart => exact ⟨0, 0, rfl, by omega, rfl, HX.out, HB.out⟩
  case round =>
    obtain ⟨n, m, rfl, hn, hm, hx, hbel⟩ := hrel
    obtain ⟨a, b, c, d, e, f, g, k, hh⟩ := Sh.eight _ (Sh.after_len p n)
    have hok := Sh.after_ok p n a b c d e f g k hh
    have hsz := hx.lt
    have HH := Lib.hid hh
    have HM := Lib.hid hm
    rw [hh] at hx
    have HX2 := Lib.hid hx
    have HB2 := Lib.hid hbel
    clear hx hbel hh hm
    by_cases hlt : n < N
    · have hml : m + 64 ≤ p.length := by rw [HN.out, HM.out]; omega
      have t1 : decide ((m : Int) < (p.length : Int)) = true := decide_eq_true (by omega)
      have c0 : wr.cell? ⟨w2.heap.size, 0, none⟩ = some (uv a) := HX2.out.cell 0 (by simp)
      have c1 : wr.cell? ⟨w2.heap.size, 1, none⟩ = some (uv b) := HX2.out.cell 1 (by simp)
      have c2 : wr.cell? ⟨w2.heap.size, 2, none⟩ = some (uv c) := HX2.out.cell 2 (by simp)
      have c3 : wr.cell? ⟨w2.heap.size, 3, none⟩ = some (uv d) := HX2.out.cell 3 (by simp)
      have c4 : wr.cell? ⟨w2.heap.size, 4, none⟩ = some (uv e) := HX2.out.cell 4 (by simp)
      have c5 : wr.cell? ⟨w2.heap.size, 5, none⟩ = some (uv f) := HX2.out.cell 5 (by simp)
      have c6 : wr.cell? ⟨w2.heap.size, 6, none⟩ = some (uv g) := HX2.out.cell 6 (by simp)
      have c7 : wr.cell? ⟨w2.heap.size, 7, none⟩ = some (uv k) := HX2.out.cell 7 (by simp)
      have w1' : IntKind.i64.wrap ((m : Int) + 64) = (m : Int) + 64 := IntWalk.i64_in _ ⟨by omega, by omega⟩
      have w2' : (0 : Int) ≤ (m : Int) := by omega
      have w3' : (m : Int) ≤ (m : Int) + 64 := by omega
      have w4' : (m : Int) + 64 ≤ (p.length : Int) := by omega
      have w5' : ((m : Int) + 64).toNat = m + 64 := by omega
      go_wp2_with fail
      have hbl : ((p.drop m).take 64).length = 64 := by simp; omega
      obtain ⟨x0, x1, x2, x3, x4, x5, x6, x7, hxx⟩ := Sh.eight (Sh.after p (n + 1)) (Sh.after_len p (n + 1))
      have hNX : Sh.block [a, b, c, d, e, f, g, k] ((p.drop m).take 64) = [x0, x1, x2, x3, x4, x5, x6, x7] := by rw [← hxx, Sh.after, HH.out, HM.out]
      have HXX := Lib.hid hxx
      have hcl : ∀ W, GW W → Calls Tryd.prog 44 #[.agg #[uv a, uv b, uv c, uv d, uv e, uv f, uv g, uv k], tx ((p.drop m).take 64)] W fun ee w' => ee = .returned (.tuple #[.agg #[uv x0, uv x1, uv x2, uv x3, uv x4, uv x5, uv x6, uv x7], .int .i64 0]) ∧ Below W.heap.size W w' := by
        intro W hW
        have := pblock8 a b c d e f g k hok _ hbl W hW
        rw [hNX] at this
        exact this
      have HCL := Lib.hid hcl
      have HBA := Lib.hid (show (ByteArray.mk p.toArray).extract m (m + 64) = ByteArray.mk ((p.drop m).take 64).toArray by rw [ba_mid, Nat.add_sub_cancel_left])
      have HGR := Lib.hid (show GW wr.drew from HGW.out.below HB2.out.drew)
      have HX3 := Lib.hid (show ARow wr.drew w2.heap.size 63 [a, b, c, d, e, f, g, k] from HX2.out)
      have HB3 := Lib.hid (show Below w.heap.size w wr.drew from HB2.out.drew)
      have w6' := HBA.out
      clear hxx hNX hcl hbl
      go_region_with (go_at_call 44; refine (HCL.out _ HGR.out).mono ?_; rintro ee w4 ⟨rfl, hb4⟩; have HX5 := Lib.hid (HX3.out.kept hb4); have HB5 := Lib.hid (grow_trans HB3.out hb4); clear hb4; have f0 := HX5.out.frozen 0; have f1 := HX5.out.frozen 1; have f2 := HX5.out.frozen 2; have f3 := HX5.out.frozen 3; have f4 := HX5.out.frozen 4; have f5 := HX5.out.frozen 5; have f6 := HX5.out.frozen 6; have f7 := HX5.out.frozen 7; have y0 : w4.cell? ⟨w2.heap.size, 0, none⟩ = some (uv a) := HX5.out.cell 0 (by simp); have y1 : w4.cell? ⟨w2.heap.size, 1, none⟩ = some (uv b) := HX5.out.cell 1 (by simp); have y2 : w4.cell? ⟨w2.heap.size, 2, none⟩ = some (uv c) := HX5.out.cell 2 (by simp); have y3 : w4.cell? ⟨w2.heap.size, 3, none⟩ = some (uv d) := HX5.out.cell 3 (by simp); have y4 : w4.cell? ⟨w2.heap.size, 4, none⟩ = some (uv e) := HX5.out.cell 4 (by simp); have y5 : w4.cell? ⟨w2.heap.size, 5, none⟩ = some (uv f) := HX5.out.cell 5 (by simp); have y6 : w4.cell? ⟨w2.heap.size, 6, none⟩ = some (uv g) := HX5.out.cell 6 (by simp); have y7 : w4.cell? ⟨w2.heap.size, 7, none⟩ = some (uv k) := HX5.out.cell 7 (by simp))
      all_goals
        have z8 := ((((((((HX5.out.set 0 x0).set 1 x1).set 2 x2).set 3 x3).set 4 x4).set 5 x5).set 6 x6).set 7 x7)
        have b8 := ((((((((HB5.out.setCell (p := ⟨w2.heap.size, 0, none⟩) hB0 (uv x0)).setCell (p := ⟨w2.heap.size, 1, none⟩) hB0 (uv x1)).setCell (p := ⟨w2.heap.size, 2, none⟩) hB0 (uv x2)).setCell (p := ⟨w2.heap.size, 3, none⟩) hB0 (uv x3)).setCell (p := ⟨w2.heap.size, 4, none⟩) hB0 (uv x4)).setCell (p := ⟨w2.heap.size, 5, none⟩) hB0 (uv x5)).setCell (p := ⟨w2.heap.size, 6, none⟩) hB0 (uv x6)).setCell (p := ⟨w2.heap.size, 7, none⟩) hB0 (uv x7))
        have e9 : (((((((([a, b, c, d, e, f, g, k].set 0 x0).set 1 x1).set 2 x2).set 3 x3).set 4 x4).set 5 x5).set 6 x6).set 7 x7) = Sh.after p (n + 1) := by rw [HXX.out]; rfl
        rw [e9] at z8
        have HZ9 := Lib.hid z8
        have HB9 := Lib.hid b8
        clear z8 e9 b8 f0 f1 f2 f3 f4 f5 f6 f7 y0 y1 y2 y3 y4 y5 y6 y7 c0 c1 c2 c3 c4 c5 c6 c7 w6'
        go_wp2
        go_roundw
        case rel => exact ⟨n + 1, m + 64, by go_num, hlt, by rw [HM.out]; omega, HZ9.out, HB9.out⟩
        case measure =>
          have := HM.out
          simp [intOf]
          omega
    · obtain rfl : n = N := by omega
      have t1 : decide (m < p.length) = false := decide_eq_false (by rw [HN.out, HM.out]; omega)
      have t2 : ¬ m < p.length := by rw [HN.out, HM.out]; omega
      have c0 : wr.cell? ⟨w2.heap.size, 0, none⟩ = some (uv a) := HX2.out.cell 0 (by simp)
      have c1 : wr.cell? ⟨w2.heap.size, 1, none⟩ = some (uv b) := HX2.out.cell 1 (by simp)
      have c2 : wr.cell? ⟨w2.heap.size, 2, none⟩ = some (uv c) := HX2.out.cell 2 (by simp)
      have c3 : wr.cell? ⟨w2.heap.size, 3, none⟩ = some (uv d) := HX2.out.cell 3 (by simp)
      have c4 : wr.cell? ⟨w2.heap.size, 4, none⟩ = some (uv e) := HX2.out.cell 4 (by simp)
      have c5 : wr.cell? ⟨w2.heap.size, 5, none⟩ = some (uv f) := HX2.out.cell 5 (by simp)
      have c6 : wr.cell? ⟨w2.heap.size, 6, none⟩ = some (uv g) := HX2.out.cell 6 (by simp)
      have c7 : wr.cell? ⟨w2.heap.size, 7, none⟩ = some (uv k) := HX2.out.cell 7 (by simp)
      have hfin := Lib.hid (show Sh.sum s = Sh.spell [a, b, c, d, e, f, g, k] by rw [HSM.out, HH.out])
      go_wp2_with fail
      refine (pspell a b c d e f g k _).mono ?_
      rintro ee w4 ⟨rfl, hb4⟩
      have HB5 := Lib.hid (grow_trans HB2.out hb4)
      clear hb4
      go_wp2
      go_ret
      exact ⟨by rw [hfin.out]; rfl, HB5.out⟩
end Go.Proofs.YtkkiedmcpibnaaaDoor
