/- The document's Sum. -/
import Derived.Test.YtkkiedmcpibnaaaDoorShaRBlock
import Derived.Test.YtkkiedmcpibnaaaDoorShaSum
import Derived.Deep.RegionHeldLaw
namespace Sh
theorem spell_cons (x : Nat) (l : List Nat) : spell (x :: l) = be4 x ++ spell l := rfl
theorem spell_take (l : List Nat) : ∀ j (hj : j < l.length), (spell l).take (4 * (j + 1)) = (spell l).take (4 * j) ++ be4 l[j] := by
  induction l with
  | nil => intro j hj; exact absurd hj (by simp)
  | cons x l ih =>
    intro j hj
    have h4 : (be4 x).length = 4 := rfl
    cases j with
    | zero => rw [spell_cons, List.take_append]; simp [be4]
    | succ j =>
      have := ih j (by simpa using hj)
      rw [spell_cons, List.take_append, List.take_append, h4, show 4 * (j + 1 + 1) - 4 = 4 * (j + 1) by omega, show 4 * (j + 1) - 4 = 4 * j by omega, this, List.take_of_length_le (i := 4 * (j + 1 + 1)) (by omega), List.take_of_length_le (i := 4 * (j + 1)) (by omega), List.append_assoc]
      rfl
theorem spell_lenL (l : List Nat) : (spell l).length = 4 * l.length := by
  induction l with
  | nil => rfl
  | cons x l ih => rw [spell_cons, List.length_append, ih, List.length_cons]; show 4 + _ = _; omega
end Sh
namespace Go.Proofs.YtkkiedmcpibnaaaDoor
open Go.RowKit
theorem new_cells (W : World) (vs : List Value) (t : TypeId) : ∀ j u, vs[j]? = some u → ((W.alloc (.cells vs.toArray t)).drew).cell? ((⟨W.heap.size, 0, none⟩ : Addr).add j) = some u := by
  intro j u h
  have ha : (⟨W.heap.size, 0, none⟩ : Addr).add j = ⟨W.heap.size, j, none⟩ := by unfold Addr.add; split <;> simp_all
  rw [ha]
  show (W.alloc (.cells vs.toArray t)).cell? ⟨W.heap.size, j, none⟩ = some u
  rw [World.cell?_alloc_at _ _ _ _ rfl]
  simpa using h
theorem be4_bv (x : Nat) (h : x < 4294967296) : (Sh.be4 x).map bv = [.int .u8 ((x : Int) / 16777216), .int .u8 ((x : Int) / 65536 % 256), .int .u8 ((x : Int) / 256 % 256), .int .u8 ((x : Int) % 256)] := by
  have e : ∀ y : Nat, bv (UInt8.ofNat (y % 256)) = .int .u8 ((y : Int) % 256) := fun y => by rw [bv, UInt8.toNat_ofNat', show (y % 256) % 2 ^ 8 = y % 256 by omega]; simp
  simp only [Sh.be4, List.map_cons, List.map_nil, e]
  rw [show ((x / 16777216 : Nat) : Int) % 256 = (x : Int) / 16777216 by omega]
  simp
theorem rpad_eqS {s r : List UInt8} (h : Sh.pad s = r) (hs : s.length ≤ 140737488351232) (w : World) :
    Calls Tryd.prog 36 #[tx s] w fun e w' => e = .returned (tx r) ∧ Below w.heap.size w w' := by subst h; exact rpad s hs w

set_option maxHeartbeats 2000000 in
set_option maxRecDepth 100000 in
theorem rsum (s : List UInt8) (hs : s.length ≤ 140737488351232) (w : World) :
    Calls Tryd.prog 28 #[tx s] w fun e w' => e = .returned (tx (Sh.sum s)) ∧ Below w.heap.size w w' := by
  obtain ⟨i0, hi, hz0, hz1, hz2⟩ := info_parts info_byte1
  obtain ⟨p, hp⟩ : ∃ p, Sh.pad s = p := ⟨_, rfl⟩
  have hp64 := Sh.pad_64 s
  have hpl := Sh.pad_len s
  have hz := Sh.zeros_lt s.length
  rw [hp] at hp64 hpl
  obtain ⟨N, hN⟩ : ∃ N, p.length = 64 * N := ⟨p.length / 64, by omega⟩
  have HSM := Lib.hid (show Sh.sum s = Sh.spell (Sh.after p N) by rw [Sh.sum, hp, hN, Nat.mul_div_cancel_left _ (by decide)])
  have HPD := Lib.hid (fun W => rpad_eqS hp hs W)
  have hNb : p.length ≤ 140737488351304 := by omega
  have HN := Lib.hid hN
  clear hp hp64 hpl hz hs hN
  go_enter Tryd.func28, Tryd.ntmps28
  go_wp2_with fail
  refine (rfirst _).mono ?_
  rintro e w1 ⟨rfl, hb1⟩
  have hx := ARow.new w1 63 (List.replicate 8 0)
  have HX0 := Lib.hid hx
  have HB0 := Lib.hid (hb1.alloc hb1.size (.cells ((List.replicate 8 0).map uv).toArray 63))
  have hB0 : w.heap.size ≤ w1.heap.size := hb1.size
  clear hx hb1
  go_wp2_with (refine store_arow rfl 63 _ _ rfl w1.heap.size (List.replicate 8 0) Sh.first rfl rfl HX0.out 8 info8 (by simp) rfl ?_; intro w3 k1 k2 k3)
  have HX := Lib.hid k1
  have HB := Lib.hid (k2 w.heap.size w hB0 HB0.out)
  clear k1 k2 k3 HX0 HB0
  refine (HPD.out _).mono ?_
  rintro e w4 ⟨rfl, hb4⟩
  have HX4 := Lib.hid (HX.out.kept hb4)
  have HB4 := Lib.hid (grow_trans HB.out hb4)
  clear hb4 HX HB
  go_wp2_with fail
  go_loopw [5] (fun i wr => ∃ (n m : Nat), i = .int .i64 m ∧ n ≤ N ∧ m = 64 * n ∧ ARow wr w1.heap.size 63 (Sh.after p n) ∧ Below w.heap.size w wr) (fun i _ => 64 * N - (intOf i).toNat)
  case atStart => exact ⟨0, 0, rfl, by omega, rfl, HX4.out, HB4.out⟩
  case round =>
    obtain ⟨n, m, rfl, hn, hm, hx, hbel⟩ := hrel
    obtain ⟨a, b, c, d, e, f, g, k, hh⟩ := Sh.eight _ (Sh.after_len p n)
    have hok := Sh.after_ok p n a b c d e f g k hh
    have hsz := hx.lt
    have HH := Lib.hid hh
    have HM := Lib.hid hm
    rw [hh] at hx
    have HX2 := Lib.hid hx
    have HB2 := Lib.hid hbel
    clear hx hbel hh hm
    by_cases hlt : n < N
    · have hml : m + 64 ≤ p.length := by rw [HN.out, HM.out]; omega
      have t1 : decide ((m : Int) < (p.length : Int)) = true := decide_eq_true (by omega)
      have c0 : wr.cell? ⟨w1.heap.size, 0, none⟩ = some (uv a) := HX2.out.cell 0 (by simp)
      have c1 : wr.cell? ⟨w1.heap.size, 1, none⟩ = some (uv b) := HX2.out.cell 1 (by simp)
      have c2 : wr.cell? ⟨w1.heap.size, 2, none⟩ = some (uv c) := HX2.out.cell 2 (by simp)
      have c3 : wr.cell? ⟨w1.heap.size, 3, none⟩ = some (uv d) := HX2.out.cell 3 (by simp)
      have c4 : wr.cell? ⟨w1.heap.size, 4, none⟩ = some (uv e) := HX2.out.cell 4 (by simp)
      have c5 : wr.cell? ⟨w1.heap.size, 5, none⟩ = some (uv f) := HX2.out.cell 5 (by simp)
      have c6 : wr.cell? ⟨w1.heap.size, 6, none⟩ = some (uv g) := HX2.out.cell 6 (by simp)
      have c7 : wr.cell? ⟨w1.heap.size, 7, none⟩ = some (uv k) := HX2.out.cell 7 (by simp)
      have w1' : IntKind.i64.wrap ((m : Int) + 64) = (m : Int) + 64 := IntWalk.i64_in _ ⟨by omega, by omega⟩
      have w2' : (0 : Int) ≤ (m : Int) := by omega
      have w3' : (m : Int) ≤ (m : Int) + 64 := by omega
      have w4' : (m : Int) + 64 ≤ (p.length : Int) := by omega
      have w5' : ((m : Int) + 64).toNat = m + 64 := by omega
      go_wp2_with fail
      have hbl : ((p.drop m).take 64).length = 64 := by simp; omega
      obtain ⟨x0, x1, x2, x3, x4, x5, x6, x7, hxx⟩ := Sh.eight (Sh.after p (n + 1)) (Sh.after_len p (n + 1))
      have hNX : Sh.block [a, b, c, d, e, f, g, k] ((p.drop m).take 64) = [x0, x1, x2, x3, x4, x5, x6, x7] := by rw [← hxx, Sh.after, HH.out, HM.out]
      have HXX := Lib.hid hxx
      have hcl : ∀ W, Calls Tryd.prog 37 #[.agg #[uv a, uv b, uv c, uv d, uv e, uv f, uv g, uv k], tx ((p.drop m).take 64)] W fun ee w' => ee = .returned (.tuple #[.agg #[uv x0, uv x1, uv x2, uv x3, uv x4, uv x5, uv x6, uv x7], .int .i64 0]) ∧ Below W.heap.size W w' := by
        intro W
        have := rblock8 a b c d e f g k hok _ hbl W
        rw [hNX] at this
        exact this
      have HCL := Lib.hid hcl
      have HBA := Lib.hid (show (ByteArray.mk p.toArray).extract m (m + 64) = ByteArray.mk ((p.drop m).take 64).toArray by rw [ba_mid, Nat.add_sub_cancel_left])
      have HX3 := Lib.hid (show ARow wr.drew w1.heap.size 63 [a, b, c, d, e, f, g, k] from HX2.out)
      have HB3 := Lib.hid (show Below w.heap.size w wr.drew from HB2.out.drew)
      have w6' := HBA.out
      clear hxx hNX hcl hbl
      go_region_with (go_at_call 37; refine (HCL.out _).mono ?_; rintro ee w4 ⟨rfl, hb4⟩; have HX5 := Lib.hid (HX3.out.kept hb4); have HB5 := Lib.hid (grow_trans HB3.out hb4); clear hb4; have f0 := HX5.out.frozen 0; have f1 := HX5.out.frozen 1; have f2 := HX5.out.frozen 2; have f3 := HX5.out.frozen 3; have f4 := HX5.out.frozen 4; have f5 := HX5.out.frozen 5; have f6 := HX5.out.frozen 6; have f7 := HX5.out.frozen 7; have y0 : w4.cell? ⟨w1.heap.size, 0, none⟩ = some (uv a) := HX5.out.cell 0 (by simp); have y1 : w4.cell? ⟨w1.heap.size, 1, none⟩ = some (uv b) := HX5.out.cell 1 (by simp); have y2 : w4.cell? ⟨w1.heap.size, 2, none⟩ = some (uv c) := HX5.out.cell 2 (by simp); have y3 : w4.cell? ⟨w1.heap.size, 3, none⟩ = some (uv d) := HX5.out.cell 3 (by simp); have y4 : w4.cell? ⟨w1.heap.size, 4, none⟩ = some (uv e) := HX5.out.cell 4 (by simp); have y5 : w4.cell? ⟨w1.heap.size, 5, none⟩ = some (uv f) := HX5.out.cell 5 (by simp); have y6 : w4.cell? ⟨w1.heap.size, 6, none⟩ = some (uv g) := HX5.out.cell 6 (by simp); have y7 : w4.cell? ⟨w1.heap.size, 7, none⟩ = some (uv k) := HX5.out.cell 7 (by simp))
      all_goals
        have z8 := ((((((((HX5.out.set 0 x0).set 1 x1).set 2 x2).set 3 x3).set 4 x4).set 5 x5).set 6 x6).set 7 x7)
        have b8 := ((((((((HB5.out.setCell (p := ⟨w1.heap.size, 0, none⟩) hB0 (uv x0)).setCell (p := ⟨w1.heap.size, 1, none⟩) hB0 (uv x1)).setCell (p := ⟨w1.heap.size, 2, none⟩) hB0 (uv x2)).setCell (p := ⟨w1.heap.size, 3, none⟩) hB0 (uv x3)).setCell (p := ⟨w1.heap.size, 4, none⟩) hB0 (uv x4)).setCell (p := ⟨w1.heap.size, 5, none⟩) hB0 (uv x5)).setCell (p := ⟨w1.heap.size, 6, none⟩) hB0 (uv x6)).setCell (p := ⟨w1.heap.size, 7, none⟩) hB0 (uv x7))
        have e9 : (((((((([a, b, c, d, e, f, g, k].set 0 x0).set 1 x1).set 2 x2).set 3 x3).set 4 x4).set 5 x5).set 6 x6).set 7 x7) = Sh.after p (n + 1) := by rw [HXX.out]; rfl
        rw [e9] at z8
        have HZ9 := Lib.hid z8
        have HB9 := Lib.hid b8
        clear z8 e9 b8 f0 f1 f2 f3 f4 f5 f6 f7 y0 y1 y2 y3 y4 y5 y6 y7 c0 c1 c2 c3 c4 c5 c6 c7 w6'
        go_wp2
        go_roundw
        case rel => exact ⟨n + 1, m + 64, by go_num, hlt, by rw [HM.out]; omega, HZ9.out, HB9.out⟩
        case measure =>
          have := HM.out
          simp [intOf]
          omega
    · obtain rfl : n = N := by omega
      have t1 : decide (m < p.length) = false := decide_eq_false (by rw [HN.out, HM.out]; omega)
      have t2 : ¬ m < p.length := by rw [HN.out, HM.out]; omega
      obtain ⟨L, hLL⟩ : ∃ L, Sh.after p n = L := ⟨_, rfl⟩
      have hLn : L.length = 8 := by rw [← hLL]; exact Sh.after_len p n
      have hLt : ∀ x ∈ L, x < 4294967296 := by rw [← hLL]; exact Sh.after_lt p n
      have hx := HX2.out
      have hsm := HSM.out
      rw [← HH.out, hLL] at hx
      rw [hLL] at hsm
      have HX3 := Lib.hid hx
      have HB3 := Lib.hid HB2.out
      have HSP := Lib.hid hsm
      have HLT := Lib.hid hLt
      clear hLL hx hsm HH HX2 HSM HB2 hok hsz hLt
      go_wp2_with fail
      clear t1 t2
      have hx3 := HX3.out.lt
      go_loopw [6, 7] (fun ov i wr => ∃ j : Nat, i = .int .i64 j ∧ j ≤ 8 ∧ wr.ownsRow (w1.heap.size + 1) 5 1 ov (4 * j) (((Sh.spell L).take (4 * j)).map bv) ∧ ARow wr w1.heap.size 63 L ∧ Below w.heap.size w wr) (fun _ i _ => 8 - (intOf i).toNat)
      case atStart => exact ⟨0, rfl, by omega, World.ownsRow_nil _ _ _ _, HX3.out, HB3.out⟩
      case round =>
        obtain ⟨j, rfl, hj, hown, hx, hbel⟩ := hrel
        have hxl := hx.lt
        by_cases hlt : j < 8
        · have hjl : j < L.length := by omega
          have cl := hx.cell j hjl
          have hst := Sh.spell_take L j hjl
          have hlx := HLT.out _ (List.getElem_mem hjl)
          obtain ⟨x, hxx⟩ : ∃ x, L[j] = x := ⟨_, rfl⟩
          rw [hxx] at cl hst hlx
          have HST := Lib.hid hst
          have HOW := Lib.hid hown
          have HX6 := Lib.hid hx
          have HB6 := Lib.hid hbel
          clear hxx hst hown hx hbel
          have j0 : (0 : Int) ≤ (j : Int) := by omega
          have j1 : (j : Int) < 8 := by omega
          have A0 : IntKind.u32.wrap ((x : Int) / 16777216) = (x : Int) / 16777216 := by rw [IntKind.wrap_u32']; omega
          have A1 : IntKind.u32.wrap ((x : Int) / 65536) = (x : Int) / 65536 := by rw [IntKind.wrap_u32']; omega
          have A2 : IntKind.u32.wrap ((x : Int) / 256) = (x : Int) / 256 := by rw [IntKind.wrap_u32']; omega
          have T1 : ((x : Int) / 65536).tmod 256 = (x : Int) / 65536 % 256 := Int.tmod_eq_emod_of_nonneg (by omega)
          have T2 : ((x : Int) / 256).tmod 256 = (x : Int) / 256 % 256 := Int.tmod_eq_emod_of_nonneg (by omega)
          have T3 : (x : Int).tmod 256 = (x : Int) % 256 := Int.tmod_eq_emod_of_nonneg (by omega)
          have U0 : IntKind.u8.wrap ((x : Int) / 16777216) = (x : Int) / 16777216 := by rw [IntKind.wrap_u8']; omega
          have U1 : IntKind.u8.wrap ((x : Int) / 65536 % 256) = (x : Int) / 65536 % 256 := by rw [IntKind.wrap_u8']; omega
          have U2 : IntKind.u8.wrap ((x : Int) / 256 % 256) = (x : Int) / 256 % 256 := by rw [IntKind.wrap_u8']; omega
          have U3 : IntKind.u8.wrap ((x : Int) % 256) = (x : Int) % 256 := by rw [IntKind.wrap_u8']; omega
          have HKA := Lib.hid (fun o : Obj => show ((wr.alloc o).drew).cell? ⟨w1.heap.size, j, none⟩ = some (uv x) from (World.cell?_alloc_past _ _ _ hxl).trans cl)
          have HOA := Lib.hid (show ((wr.alloc (.cells #[.int .u8 ((x : Int) / 16777216), .int .u8 ((x : Int) / 65536 % 256), .int .u8 ((x : Int) / 256 % 256), .int .u8 ((x : Int) % 256)] 5)).drew).ownsRow (w1.heap.size + 1) 5 1 u6 (4 * j) (((Sh.spell L).take (4 * j)).map bv) from HOW.out.alloc (.cells #[.int .u8 ((x : Int) / 16777216), .int .u8 ((x : Int) / 65536 % 256), .int .u8 ((x : Int) / 256 % 256), .int .u8 ((x : Int) % 256)] 5))
          have HNW := Lib.hid (new_cells wr [.int .u8 ((x : Int) / 16777216), .int .u8 ((x : Int) / 65536 % 256), .int .u8 ((x : Int) / 256 % 256), .int .u8 ((x : Int) % 256)] 5)
          have HON := Lib.hid (show ∀ u ∈ ([.int .u8 ((x : Int) / 16777216), .int .u8 ((x : Int) / 65536 % 256), .int .u8 ((x : Int) / 256 % 256), .int .u8 ((x : Int) % 256)] : List Value), u.oneCell' = true by intro u hu; simp at hu; rcases hu with rfl | rfl | rfl | rfl <;> rfl)
          have HSA := Lib.hid (show w1.heap.size + 1 ≤ ((wr.alloc (.cells #[.int .u8 ((x : Int) / 16777216), .int .u8 ((x : Int) / 65536 % 256), .int .u8 ((x : Int) / 256 % 256), .int .u8 ((x : Int) % 256)] 5)).drew).heap.size by show _ ≤ (wr.alloc _).heap.size; rw [World.size_alloc]; omega)
          have HNE := Lib.hid (show some w1.heap.size ≠ u6.ownBlock from fun e => by have := (HOW.out.lt _ e.symm).1; omega)
          have h63 : 4 * j + 4 ≤ maxLen := by unfold maxLen; omega
          have hby : (4 * j + 4) * 1 ≤ 140737488355328 := by omega
          have hS : (fun w' : World => w'.cell? ⟨w1.heap.size, j, none⟩ = some (uv x)) wr.drew := cl
          go_wp2_with fail
          go_region_held_law (fun w' : World => w'.cell? ⟨w1.heap.size, j, none⟩ = some (uv x))
            (first | assumption | exact HKA.out _ | exact World.grownBy.cell (by assumption) (HKA.out _) HNE.out)
            (first | (refine step_append_lies _ (by rfl) (.tmp 31) (.tmp 54) 67 (by rfl) (w1.heap.size + 1) 5 i0 (.int .u8 0) 1 1 Tryd.underlying67 hi hz0 hz1 hz2 rfl (by decide) u6 (4 * j) (((Sh.spell L).take (4 * j)).map bv) (by rfl) HOA.out ⟨wr.heap.size, 0, none⟩ 4 4 [.int .u8 ((x : Int) / 16777216), .int .u8 ((x : Int) / 65536 % 256), .int .u8 ((x : Int) / 256 % 256), .int .u8 ((x : Int) % 256)] (by rfl) (by rfl) HNW.out HON.out (by decide) h63 hby HSA.out _ (by rfl) ?_; intro v4 c4 w4 hown hg _ _))
          have hx7 : ARow w4 w1.heap.size 63 L := (hg.block w1.heap.size (by show _ < (wr.alloc _).heap.size; rw [World.size_alloc]; omega) HNE.out).trans ((HX6.out.alloc (.cells #[.int .u8 ((x : Int) / 16777216), .int .u8 ((x : Int) / 65536 % 256), .int .u8 ((x : Int) / 256 % 256), .int .u8 ((x : Int) % 256)] 5)).draw 1)
          have hb7 : Below w.heap.size w w4 := (HB6.out.alloc HB6.out.size (.cells #[.int .u8 ((x : Int) / 16777216), .int .u8 ((x : Int) / 65536 % 256), .int .u8 ((x : Int) / 256 % 256), .int .u8 ((x : Int) % 256)] 5)).drew.grown hg (by show _ ≤ (wr.alloc _).heap.size; rw [World.size_alloc]; have := HB6.out.size; omega) (fun k hk => by have := (HOW.out.lt k hk).1; omega)
          have ho7 : w4.ownsRow (w1.heap.size + 1) 5 1 (.slice (some ⟨v4, 0, none⟩) (4 * j + 4) c4) (4 * (j + 1)) (((Sh.spell L).take (4 * (j + 1))).map bv) := by
            rw [HST.out, List.map_append, be4_bv x hlx, show 4 * (j + 1) = 4 * j + 4 by omega]
            exact hown
          have HX7 := Lib.hid hx7
          have HB7 := Lib.hid hb7
          have HO7 := Lib.hid ho7
          clear hx7 hb7 ho7 hown hg A0 A1 A2 T1 T2 T3 U0 U1 U2 U3 hS cl
          go_wp2
          go_roundw
          case rel => exact ⟨j + 1, by go_num, hlt, HO7.out, HX7.out, HB7.out⟩
          case measure => simp [intOf]; omega
        · obtain rfl : j = 8 := by omega
          have hsl : (Sh.spell L).length = 32 := by rw [Sh.spell_lenL, hLn]
          rw [List.take_of_length_le (by omega)] at hown
          obtain ⟨D, hD⟩ : ∃ D, Sh.spell L = D := ⟨_, rfl⟩
          rw [hD] at hown hsl
          have HF := Lib.hid (HSP.out.trans hD)
          clear hD
          rcases hown.2 with ⟨_, h8⟩ | ⟨g2, cap2, cur2, rfl, hg2, _, _, _, _, _⟩
          · omega
          have hcl := hown.cells rfl
          have hcell2 : ∀ i, i < D.length → wr.cell? ⟨g2, 0 + i, none⟩ = some (.int .u8 ((D.map fun y => (y.toNat : Int)).getD i 0)) := by
            intro i hi
            have := hcl i (bv D[i]) (by simp [hi])
            have ha : (⟨g2, 0, none⟩ : Addr).add i = ⟨g2, 0 + i, none⟩ := by unfold Addr.add; split <;> simp_all
            rw [ha] at this
            rw [this]
            simp [bv, List.getD, hi]
          have hconv2 := run_convert_bytes_arg (P := Tryd.prog) wr 67 5 Tryd.underlying67 Tryd.underlying5 g2 0 _ cap2 _ (by simp) hcell2 9 Tryd.underlying9
          rw [strOfNums_bytes, hsl] at hconv2
          clear hcell2 hcl hown hx
          go_wp2
          go_ret
          exact ⟨by rw [HF.out]; rfl, hbel⟩
end Go.Proofs.YtkkiedmcpibnaaaDoor
