/- ShaTurns: the walk. -/
import Derived.Test.YtfjkindhdnaknaaDoorShaShown
import Derived.Test.YtfjkindhdnaknaaDoorOpen
namespace Sh
theorem pad_take (s : List UInt8) : (pad s).take s.length = s := by rw [pad, List.take_left]
theorem ofN_b (x : Nat) : (UInt8.ofNat (x % 256)).toNat = x % 256 := by rw [UInt8.toNat_ofNat']; omega
theorem spell_four (h : List Nat) : ∀ k (hk : k < h.length), ∃ b0 b1 b2 b3 : UInt8, (spell h)[4 * k]? = some b0 ∧ (spell h)[4 * k + 1]? = some b1 ∧ (spell h)[4 * k + 2]? = some b2 ∧ (spell h)[4 * k + 3]? = some b3 ∧
    (h[k] < 4294967296 → b0.toNat * 16777216 + b1.toNat * 65536 + b2.toNat * 256 + b3.toNat = h[k]) := by
  induction h with
  | nil => intro k hk; exact absurd hk (by simp)
  | cons x h ih =>
    intro k hk
    cases k with
    | zero =>
      refine ⟨_, _, _, _, rfl, rfl, rfl, rfl, ?_⟩
      intro hx
      rw [List.getElem_cons_zero] at hx ⊢
      rw [ofN_b, ofN_b, ofN_b, ofN_b]
      omega
    | succ k => exact ih k (by simpa using hk)
end Sh
namespace Go.Proofs.YtfjkindhdnaknaaDoor
open Go.RowKit Go.ChangeShapes Go.WideShapes Go.ChangeAt
attribute [local go_sem] byte_at

set_option maxHeartbeats 4000000 in
set_option maxRecDepth 100000 in
theorem shaTurns_core (s : List UInt8) (w : World) (hs : s.length ≤ 140737488351232) (hw : GW w) :
    Calls Tryd.prog 7 #[tx s] w fun e w' => e = .returned (.bool true) ∧ Below w.heap.size w w' := by
  have hpt := Sh.pad_take s
  obtain ⟨p, hp⟩ : ∃ p, Sh.pad s = p := ⟨_, rfl⟩
  have hp64 := Sh.pad_64 s
  have hpl := Sh.pad_len s
  have hz := Sh.zeros_lt s.length
  have hdl := sum_len s
  rw [hp] at hp64 hpl hpt
  obtain ⟨N, hN⟩ : ∃ N, p.length = 64 * N := ⟨p.length / 64, by omega⟩
  obtain ⟨d, hd⟩ : ∃ d, Sh.sum s = d := ⟨_, rfl⟩
  have HSM := Lib.hid (show d = Sh.spell (Sh.after p N) by rw [← hd, Sh.sum, hp, hN, Nat.mul_div_cancel_left _ (by decide)])
  rw [hd] at hdl
  have H1 := Lib.hid (shaShown w hw)
  have HPD := Lib.hid (fun W => ppad_eq hp hs W)
  have HSC := Lib.hid (fun W hW => psum_eq hd hs W hW)
  have HGW := Lib.hid hw
  have HDL := Lib.hid hdl
  have hNb : p.length ≤ 140737488351304 := by omega
  have HN := Lib.hid hN
  have HBA := Lib.hid (show (ByteArray.mk p.toArray).extract 0 s.length = ByteArray.mk s.toArray by rw [ba_mid]; simp [hpt])
  have hsl : s.length + 9 ≤ p.length := by omega
  clear hp hpl hz hw hs hN hd hdl hpt
  go_enter Tryd.func7, Tryd.ntmps7
  go_wp2_with fail
  refine H1.out.mono ?_
  rintro e w1 ⟨rfl, hb1⟩
  go_wp2_with fail
  refine (pfirst _).mono ?_
  rintro e w2 ⟨rfl, hb2⟩
  have hx := ARow.new w2 26 (List.replicate 8 0)
  have HX0 := Lib.hid hx
  have HB0 := Lib.hid ((grow_trans hb1 hb2).alloc (grow_trans hb1 hb2).size (.cells ((List.replicate 8 0).map uv).toArray 26))
  have hB0 : w.heap.size ≤ w2.heap.size := (grow_trans hb1 hb2).size
  clear hx hb1 hb2
  go_wp2_with (refine store_arow rfl 26 _ _ rfl w2.heap.size (List.replicate 8 0) Sh.first rfl rfl HX0.out 8 info8 (by simp) rfl ?_; intro w3 k1 k2 k3)
  have HX := Lib.hid k1
  have HB := Lib.hid (k2 w.heap.size w hB0 HB0.out)
  clear k1 k2 k3 HX0 HB0
  refine (HPD.out _).mono ?_
  rintro e w4 ⟨rfl, hb4⟩
  have HX4 := Lib.hid (HX.out.kept hb4)
  have HB4 := Lib.hid (grow_trans HB.out hb4)
  clear hb4 HX HB
  have e1 := HBA.out
  go_wp2_with fail
  go_loopw [6] (fun i wr => ∃ (n m : Nat), i = .int .i64 m ∧ n ≤ N ∧ m = 64 * n ∧ ARow wr w2.heap.size 26 (Sh.after p n) ∧ Below w.heap.size w wr) (fun i _ => 64 * N - (intOf i).toNat)
  case atStart => exact ⟨0, 0, rfl, by omega, rfl, HX4.out, HB4.out⟩
  case round =>
    obtain ⟨n, m, rfl, hn, hm, hx, hbel⟩ := hrel
    obtain ⟨a, b, c, d', e, f, g, k, hh⟩ := Sh.eight _ (Sh.after_len p n)
    have hok := Sh.after_ok p n a b c d' e f g k hh
    have hsz := hx.lt
    have HH := Lib.hid hh
    have HM := Lib.hid hm
    rw [hh] at hx
    have HX2 := Lib.hid hx
    have HB2 := Lib.hid hbel
    clear hx hbel hh hm
    by_cases hlt : n < N
    · have hml : m + 64 ≤ p.length := by rw [HN.out, HM.out]; omega
      have t1 : decide ((m : Int) < (p.length : Int)) = true := decide_eq_true (by omega)
      have c0 : wr.cell? ⟨w2.heap.size, 0, none⟩ = some (uv a) := HX2.out.cell 0 (by simp)
      have c1 : wr.cell? ⟨w2.heap.size, 1, none⟩ = some (uv b) := HX2.out.cell 1 (by simp)
      have c2 : wr.cell? ⟨w2.heap.size, 2, none⟩ = some (uv c) := HX2.out.cell 2 (by simp)
      have c3 : wr.cell? ⟨w2.heap.size, 3, none⟩ = some (uv d') := HX2.out.cell 3 (by simp)
      have c4 : wr.cell? ⟨w2.heap.size, 4, none⟩ = some (uv e) := HX2.out.cell 4 (by simp)
      have c5 : wr.cell? ⟨w2.heap.size, 5, none⟩ = some (uv f) := HX2.out.cell 5 (by simp)
      have c6 : wr.cell? ⟨w2.heap.size, 6, none⟩ = some (uv g) := HX2.out.cell 6 (by simp)
      have c7 : wr.cell? ⟨w2.heap.size, 7, none⟩ = some (uv k) := HX2.out.cell 7 (by simp)
      have w1' : IntKind.i64.wrap ((m : Int) + 64) = (m : Int) + 64 := IntWalk.i64_in _ ⟨by omega, by omega⟩
      have w2' : (0 : Int) ≤ (m : Int) := by omega
      have w3' : (m : Int) ≤ (m : Int) + 64 := by omega
      have w4' : (m : Int) + 64 ≤ (p.length : Int) := by omega
      have w5' : ((m : Int) + 64).toNat = m + 64 := by omega
      go_wp2_with fail
      have hbl : ((p.drop m).take 64).length = 64 := by simp; omega
      obtain ⟨x0, x1, x2, x3, x4, x5, x6, x7, hxx⟩ := Sh.eight (Sh.after p (n + 1)) (Sh.after_len p (n + 1))
      have hNX : Sh.block [a, b, c, d', e, f, g, k] ((p.drop m).take 64) = [x0, x1, x2, x3, x4, x5, x6, x7] := by rw [← hxx, Sh.after, HH.out, HM.out]
      have HXX := Lib.hid hxx
      have hcl : ∀ W, GW W → Calls Tryd.prog 18 #[.agg #[uv a, uv b, uv c, uv d', uv e, uv f, uv g, uv k], tx ((p.drop m).take 64)] W fun ee w' => ee = .returned (.tuple #[.agg #[uv x0, uv x1, uv x2, uv x3, uv x4, uv x5, uv x6, uv x7], .int .i64 0]) ∧ Below W.heap.size W w' := by
        intro W hW
        have := pblock8 a b c d' e f g k hok _ hbl W hW
        rw [hNX] at this
        exact this
      have HCL := Lib.hid hcl
      have HBA := Lib.hid (show (ByteArray.mk p.toArray).extract m (m + 64) = ByteArray.mk ((p.drop m).take 64).toArray by rw [ba_mid, Nat.add_sub_cancel_left])
      have HD := Lib.hid (show Below w.heap.size w wr.drew from HB2.out.drew)
      have HGD := Lib.hid (show GW wr.drew from HGW.out.below HD.out)
      have HXD := Lib.hid (show ARow wr.drew w2.heap.size 26 [a, b, c, d', e, f, g, k] from HX2.out)
      have HA := Lib.hid (show Below w.heap.size w (wr.alloc (.cells #[.int .u32 0, .int .u32 0, .int .u32 0, .int .u32 0, .int .u32 0, .int .u32 0, .int .u32 0, .int .u32 0] 26)).drew from (HB2.out.alloc HB2.out.size _).drew)
      have HGR := Lib.hid (show GW (wr.alloc (.cells #[.int .u32 0, .int .u32 0, .int .u32 0, .int .u32 0, .int .u32 0, .int .u32 0, .int .u32 0, .int .u32 0] 26)).drew from HGW.out.below HA.out)
      have HX3 := Lib.hid (show ARow (wr.alloc (.cells #[.int .u32 0, .int .u32 0, .int .u32 0, .int .u32 0, .int .u32 0, .int .u32 0, .int .u32 0, .int .u32 0] 26)).drew w2.heap.size 26 [a, b, c, d', e, f, g, k] from HX2.out.alloc _)
      have HZ3 := Lib.hid (show ARow (wr.alloc (.cells #[.int .u32 0, .int .u32 0, .int .u32 0, .int .u32 0, .int .u32 0, .int .u32 0, .int .u32 0, .int .u32 0] 26)).drew wr.heap.size 26 (List.replicate 8 0) from ARow.new wr 26 (List.replicate 8 0))
      have w6' := HBA.out
      clear hxx hNX hcl hbl
      go_region_with (go_at_call 18; first
        | (with_reducible refine (HCL.out wr.drew HGD.out).mono ?_; rintro ee w5 ⟨rfl, hb5⟩; have HX5 := Lib.hid (HXD.out.kept hb5); have HB5 := Lib.hid (grow_trans HD.out hb5); clear hb5)
        | (with_reducible refine (HCL.out _ HGR.out).mono ?_; rintro ee w5 ⟨rfl, hb5⟩; have HX5 := Lib.hid (HX3.out.kept hb5); have HZ5 := Lib.hid (HZ3.out.kept hb5); have HB5 := Lib.hid (grow_trans HA.out hb5); clear hb5; have f0 := HZ5.out.frozen 0; have f1 := HZ5.out.frozen 1; have f2 := HZ5.out.frozen 2; have f3 := HZ5.out.frozen 3; have f4 := HZ5.out.frozen 4; have f5 := HZ5.out.frozen 5; have f6 := HZ5.out.frozen 6; have f7 := HZ5.out.frozen 7; have y0 : w5.cell? ⟨wr.heap.size, 0, none⟩ = some (uv 0) := HZ5.out.cell 0 (by simp); have y1 : w5.cell? ⟨wr.heap.size, 1, none⟩ = some (uv 0) := HZ5.out.cell 1 (by simp); have y2 : w5.cell? ⟨wr.heap.size, 2, none⟩ = some (uv 0) := HZ5.out.cell 2 (by simp); have y3 : w5.cell? ⟨wr.heap.size, 3, none⟩ = some (uv 0) := HZ5.out.cell 3 (by simp); have y4 : w5.cell? ⟨wr.heap.size, 4, none⟩ = some (uv 0) := HZ5.out.cell 4 (by simp); have y5 : w5.cell? ⟨wr.heap.size, 5, none⟩ = some (uv 0) := HZ5.out.cell 5 (by simp); have y6 : w5.cell? ⟨wr.heap.size, 6, none⟩ = some (uv 0) := HZ5.out.cell 6 (by simp); have y7 : w5.cell? ⟨wr.heap.size, 7, none⟩ = some (uv 0) := HZ5.out.cell 7 (by simp)))
      · obtain ⟨w6, hw6⟩ : ∃ w6, w5.alloc (.cells #[.int .u32 (x0 : Int), .int .u32 (x1 : Int), .int .u32 (x2 : Int), .int .u32 (x3 : Int), .int .u32 (x4 : Int), .int .u32 (x5 : Int), .int .u32 (x6 : Int), .int .u32 (x7 : Int)] 26) = w6 := ⟨_, rfl⟩
        have hz6 : ARow w6 w5.heap.size 26 [x0, x1, x2, x3, x4, x5, x6, x7] := by rw [← hw6]; exact ARow.new w5 26 [x0, x1, x2, x3, x4, x5, x6, x7]
        have hx6 : ARow w6 w2.heap.size 26 [a, b, c, d', e, f, g, k] := by rw [← hw6]; exact HX5.out.alloc _
        have hb6 : Below w.heap.size w w6 := by rw [← hw6]; exact HB5.out.alloc HB5.out.size _
        rw [hw6]
        clear hw6
        clear c0 c1 c2 c3 c4 c5 c6 c7 w6'
        have HZ6 := Lib.hid hz6
        have HX6 := Lib.hid hx6
        have HB6 := Lib.hid hb6
        clear hz6 hx6 hb6
        go_wp2_with (first
          | (refine load_arow rfl 26 _ rfl w5.heap.size [x0, x1, x2, x3, x4, x5, x6, x7] rfl HZ6.out 8 23 Tryd.underlying26 info8 rfl ?_)
          | (refine store_arow rfl 26 _ _ rfl w2.heap.size [a, b, c, d', e, f, g, k] [x0, x1, x2, x3, x4, x5, x6, x7] rfl rfl HX6.out 8 info8 rfl rfl ?_; intro w7 k1 k2 k3))
        have k1' : ARow w7 w2.heap.size 26 (Sh.after p (n + 1)) := by rw [HXX.out]; exact k1
        have HK := Lib.hid (k2 w.heap.size w hB0 HB6.out)
        clear k1 k2 k3
        go_roundw
        case rel => exact ⟨n + 1, m + 64, by go_num, hlt, by rw [HM.out]; omega, k1', HK.out⟩
        case measure =>
          have := HM.out
          simp [intOf]
          omega
      · obtain ⟨w6, hw6⟩ : ∃ w6, ((((((((w5.setCell ⟨wr.heap.size, 0, none⟩ (.int .u32 (x0 : Int))).setCell ⟨wr.heap.size, 1, none⟩ (.int .u32 (x1 : Int))).setCell ⟨wr.heap.size, 2, none⟩ (.int .u32 (x2 : Int))).setCell ⟨wr.heap.size, 3, none⟩ (.int .u32 (x3 : Int))).setCell ⟨wr.heap.size, 4, none⟩ (.int .u32 (x4 : Int))).setCell ⟨wr.heap.size, 5, none⟩ (.int .u32 (x5 : Int))).setCell ⟨wr.heap.size, 6, none⟩ (.int .u32 (x6 : Int))).setCell ⟨wr.heap.size, 7, none⟩ (.int .u32 (x7 : Int))) = w6 := ⟨_, rfl⟩
        have hne : w2.heap.size ≠ wr.heap.size := by omega
        have hz6 : ARow w6 wr.heap.size 26 [x0, x1, x2, x3, x4, x5, x6, x7] := by rw [← hw6]; exact ((((((((HZ5.out.set 0 x0).set 1 x1).set 2 x2).set 3 x3).set 4 x4).set 5 x5).set 6 x6).set 7 x7)
        have hx6 : ARow w6 w2.heap.size 26 [a, b, c, d', e, f, g, k] := by rw [← hw6]; exact ((((((((HX5.out.other wr.heap.size 0 (uv x0) hne).other wr.heap.size 1 (uv x1) hne).other wr.heap.size 2 (uv x2) hne).other wr.heap.size 3 (uv x3) hne).other wr.heap.size 4 (uv x4) hne).other wr.heap.size 5 (uv x5) hne).other wr.heap.size 6 (uv x6) hne).other wr.heap.size 7 (uv x7) hne)
        have hb6 : Below w.heap.size w w6 := by rw [← hw6]; exact ((((((((HB5.out.setCell (p := ⟨wr.heap.size, 0, none⟩) HB2.out.size (uv x0)).setCell (p := ⟨wr.heap.size, 1, none⟩) HB2.out.size (uv x1)).setCell (p := ⟨wr.heap.size, 2, none⟩) HB2.out.size (uv x2)).setCell (p := ⟨wr.heap.size, 3, none⟩) HB2.out.size (uv x3)).setCell (p := ⟨wr.heap.size, 4, none⟩) HB2.out.size (uv x4)).setCell (p := ⟨wr.heap.size, 5, none⟩) HB2.out.size (uv x5)).setCell (p := ⟨wr.heap.size, 6, none⟩) HB2.out.size (uv x6)).setCell (p := ⟨wr.heap.size, 7, none⟩) HB2.out.size (uv x7))
        rw [hw6]
        clear hw6 hne f0 f1 f2 f3 f4 f5 f6 f7 y0 y1 y2 y3 y4 y5 y6 y7
        clear c0 c1 c2 c3 c4 c5 c6 c7 w6'
        have HZ6 := Lib.hid hz6
        have HX6 := Lib.hid hx6
        have HB6 := Lib.hid hb6
        clear hz6 hx6 hb6
        go_wp2_with (first
          | (refine load_arow rfl 26 _ rfl wr.heap.size [x0, x1, x2, x3, x4, x5, x6, x7] rfl HZ6.out 8 23 Tryd.underlying26 info8 rfl ?_)
          | (refine store_arow rfl 26 _ _ rfl w2.heap.size [a, b, c, d', e, f, g, k] [x0, x1, x2, x3, x4, x5, x6, x7] rfl rfl HX6.out 8 info8 rfl rfl ?_; intro w7 k1 k2 k3))
        have k1' : ARow w7 w2.heap.size 26 (Sh.after p (n + 1)) := by rw [HXX.out]; exact k1
        have HK := Lib.hid (k2 w.heap.size w hB0 HB6.out)
        clear k1 k2 k3
        go_roundw
        case rel => exact ⟨n + 1, m + 64, by go_num, hlt, by rw [HM.out]; omega, k1', HK.out⟩
        case measure =>
          have := HM.out
          simp [intOf]
          omega
      · obtain ⟨w6, hw6⟩ : ∃ w6, ((((((((w5.setCell ⟨wr.heap.size, 0, none⟩ (.int .u32 (x0 : Int))).setCell ⟨wr.heap.size, 1, none⟩ (.int .u32 (x1 : Int))).setCell ⟨wr.heap.size, 2, none⟩ (.int .u32 (x2 : Int))).setCell ⟨wr.heap.size, 3, none⟩ (.int .u32 (x3 : Int))).setCell ⟨wr.heap.size, 4, none⟩ (.int .u32 (x4 : Int))).setCell ⟨wr.heap.size, 5, none⟩ (.int .u32 (x5 : Int))).setCell ⟨wr.heap.size, 6, none⟩ (.int .u32 (x6 : Int))).setCell ⟨wr.heap.size, 7, none⟩ (.int .u32 (x7 : Int))) = w6 := ⟨_, rfl⟩
        have hne : w2.heap.size ≠ wr.heap.size := by omega
        have hz6 : ARow w6 wr.heap.size 26 [x0, x1, x2, x3, x4, x5, x6, x7] := by rw [← hw6]; exact ((((((((HZ5.out.set 0 x0).set 1 x1).set 2 x2).set 3 x3).set 4 x4).set 5 x5).set 6 x6).set 7 x7)
        have hx6 : ARow w6 w2.heap.size 26 [a, b, c, d', e, f, g, k] := by rw [← hw6]; exact ((((((((HX5.out.other wr.heap.size 0 (uv x0) hne).other wr.heap.size 1 (uv x1) hne).other wr.heap.size 2 (uv x2) hne).other wr.heap.size 3 (uv x3) hne).other wr.heap.size 4 (uv x4) hne).other wr.heap.size 5 (uv x5) hne).other wr.heap.size 6 (uv x6) hne).other wr.heap.size 7 (uv x7) hne)
        have hb6 : Below w.heap.size w w6 := by rw [← hw6]; exact ((((((((HB5.out.setCell (p := ⟨wr.heap.size, 0, none⟩) HB2.out.size (uv x0)).setCell (p := ⟨wr.heap.size, 1, none⟩) HB2.out.size (uv x1)).setCell (p := ⟨wr.heap.size, 2, none⟩) HB2.out.size (uv x2)).setCell (p := ⟨wr.heap.size, 3, none⟩) HB2.out.size (uv x3)).setCell (p := ⟨wr.heap.size, 4, none⟩) HB2.out.size (uv x4)).setCell (p := ⟨wr.heap.size, 5, none⟩) HB2.out.size (uv x5)).setCell (p := ⟨wr.heap.size, 6, none⟩) HB2.out.size (uv x6)).setCell (p := ⟨wr.heap.size, 7, none⟩) HB2.out.size (uv x7))
        rw [hw6]
        clear hw6 hne f0 f1 f2 f3 f4 f5 f6 f7 y0 y1 y2 y3 y4 y5 y6 y7
        clear c0 c1 c2 c3 c4 c5 c6 c7 w6'
        have HZ6 := Lib.hid hz6
        have HX6 := Lib.hid hx6
        have HB6 := Lib.hid hb6
        clear hz6 hx6 hb6
        go_wp2_with (first
          | (refine load_arow rfl 26 _ rfl wr.heap.size [x0, x1, x2, x3, x4, x5, x6, x7] rfl HZ6.out 8 23 Tryd.underlying26 info8 rfl ?_)
          | (refine store_arow rfl 26 _ _ rfl w2.heap.size [a, b, c, d', e, f, g, k] [x0, x1, x2, x3, x4, x5, x6, x7] rfl rfl HX6.out 8 info8 rfl rfl ?_; intro w7 k1 k2 k3))
        have k1' : ARow w7 w2.heap.size 26 (Sh.after p (n + 1)) := by rw [HXX.out]; exact k1
        have HK := Lib.hid (k2 w.heap.size w hB0 HB6.out)
        clear k1 k2 k3
        go_roundw
        case rel => exact ⟨n + 1, m + 64, by go_num, hlt, by rw [HM.out]; omega, k1', HK.out⟩
        case measure =>
          have := HM.out
          simp [intOf]
          omega
    · obtain rfl : n = N := by omega
      have t1 : decide (m < p.length) = false := decide_eq_false (by rw [HN.out, HM.out]; omega)
      have t2 : ¬ m < p.length := by rw [HN.out, HM.out]; omega
      obtain ⟨L, hLL⟩ : ∃ L, Sh.after p n = L := ⟨_, rfl⟩
      have hLn : L.length = 8 := by rw [← hLL]; exact Sh.after_len p n
      have hLt : ∀ x ∈ L, x < 4294967296 := by rw [← hLL]; exact Sh.after_lt p n
      have hx := HX2.out
      have hsm := HSM.out
      rw [← HH.out, hLL] at hx
      rw [hLL] at hsm
      have hgr := HSC.out _ (HGW.out.below HB2.out)
      have hdl := HDL.out
      have HX3 := Lib.hid hx
      have HB3 := Lib.hid HB2.out
      have HSP := Lib.hid hsm
      have HGR := Lib.hid hgr
      clear hLL hx hsm hgr HH HX2 HSM HSC HB2 hok hsz
      go_wp2_with fail
      refine HGR.out.mono ?_
      rintro ee w5 ⟨rfl, hb5⟩
      have HX5 := Lib.hid (HX3.out.kept hb5)
      have HB5 := Lib.hid (grow_trans HB3.out hb5)
      clear hb5 HX3 HB3 t1 t2
      go_wp2_with fail
      go_loopw [10] (fun i wr => ∃ (j : Nat), i = .int .i64 j ∧ j ≤ 8 ∧ ARow wr w2.heap.size 26 L ∧ Below w.heap.size w wr) (fun i _ => 8 - (intOf i).toNat)
      case atStart => exact ⟨0, rfl, by omega, HX5.out, HB5.out⟩
      case round =>
        obtain ⟨j, rfl, hj, hx, hbel⟩ := hrel
        by_cases hlt : j < 8
        · have hjl : j < L.length := by omega
          obtain ⟨b0, b1, b2, b3, q0, q1, q2, q3, qq⟩ := Sh.spell_four L j hjl
          have qq := qq (hLt _ (List.getElem_mem hjl))
          rw [← HSP.out] at q0 q1 q2 q3
          have l0 : 4 * j < d.length := by omega
          have l1 : 4 * j + 1 < d.length := by omega
          have l2 : 4 * j + 2 < d.length := by omega
          have l3 : 4 * j + 3 < d.length := by omega
          obtain ⟨v, hv⟩ : ∃ v, 4 * j = v := ⟨_, rfl⟩
          have em : 4 * (j : Int) = (v : Int) := by omega
          have hvl : v ≤ 28 := by omega
          rw [hv] at q0 q1 q2 q3 l0 l1 l2 l3
          clear hv
          rw [List.getElem?_eq_getElem l0, Option.some.injEq] at q0
          rw [List.getElem?_eq_getElem l1, Option.some.injEq] at q1
          rw [List.getElem?_eq_getElem l2, Option.some.injEq] at q2
          rw [List.getElem?_eq_getElem l3, Option.some.injEq] at q3
          have z0 := b0.toNat_lt
          have z1 := b1.toNat_lt
          have z2 := b2.toNat_lt
          have z3 := b3.toNat_lt
          have cl := hx.cell j hjl
          obtain ⟨x, hxx⟩ : ∃ x, L[j] = x := ⟨_, rfl⟩
          rw [hxx] at qq cl
          have QQ := Lib.hid qq
          have HX6 := Lib.hid hx
          have HB6 := Lib.hid hbel
          clear hxx hx hbel qq
          have a0 : (0 : Int) ≤ (v : Int) := by omega
          have a1 : (0 : Int) ≤ (v : Int) + 1 := by omega
          have a2 : (0 : Int) ≤ (v : Int) + 2 := by omega
          have a3 : (0 : Int) ≤ (v : Int) + 3 := by omega
          have n1 : ((v : Int) + 1).toNat = v + 1 := by omega
          have n2 : ((v : Int) + 2).toNat = v + 2 := by omega
          have n3 : ((v : Int) + 3).toNat = v + 3 := by omega
          have u0 : (v : Int) < (d.length : Int) := by omega
          have u1 : (v : Int) + 1 < (d.length : Int) := by omega
          have u2 : (v : Int) + 2 < (d.length : Int) := by omega
          have u3 : (v : Int) + 3 < (d.length : Int) := by omega
          go_wp2_with fail
          go_quiet (fail)
          have ev : ((b0.toNat : Int) * 16777216 + (b1.toNat : Int) * 65536 + (b2.toNat : Int) * 256 + (b3.toNat : Int)) = (x : Int) := by have := QQ.out; omega
          rw [ev]
          have HX7 := Lib.hid (HX6.out.draw nq)
          have HB7 := Lib.hid (below_drewN HB6.out nq)
          have cl' : (wr.drewN nq).cell? ⟨w2.heap.size, j, none⟩ = some (uv x) := cl
          clear ev cl HX6 HB6
          generalize wr.drewN nq = wq at *
          go_wp2_with fail
          go_roundw
          case rel => exact ⟨j + 1, by go_num, hlt, HX7.out, HB7.out⟩
          case measure => simp [intOf]; omega
        · obtain rfl : j = 8 := by omega
          go_wp2
          go_ret
          exact ⟨rfl, hbel⟩
theorem shaTurns_walk {H : Type} (enc : TypeId × Value → H) (W : World) (base : Nat) (v0 : Value) (d0 : DataW H) (p0 : List MemPlace)
    (h0 : DataW.Trod enc Tryd.prog W 0 (fun _ => true) true 9 v0 d0 p0) (o0 : Value.okWide Tryd.prog W .any base 9 v0)
    (hsz : (DataW.weightsEach Tryd.prog [9] [d0]).all (· ≤ reachBytes) = true) (hg : GW W) :
    Calls Tryd.prog 7 #[v0] W fun e W' => e = .returned (.bool true) ∧ Below W.heap.size W W' := by
  obtain ⟨a, rfl, rfl, rfl⟩ := open_tx Tryd.underlying9 o0 h0
  exact shaTurns_core a W (sized_string hsz (j := 0) rfl rfl) hg
end Go.Proofs.YtfjkindhdnaknaaDoor
