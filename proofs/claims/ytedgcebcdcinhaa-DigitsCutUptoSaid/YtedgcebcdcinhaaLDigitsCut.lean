/- DigitsCut: the walk. -/
import Derived.Test.YtedgcebcdcinhaaDigShown
import Derived.Test.YtedgcebcdcinhaaDigTakeRow
import Derived.Test.YtedgcebcdcinhaaDigRow
import Derived.Test.YtedgcebcdcinhaaOpenTxs
import Derived.Test.YtedgcebcdcinhaaDigInv
namespace Go.Proofs.Ytedgcebcdcinhaa
open Go.RowKit Go.ChangeShapes Go.WideShapes Go.ChangeAt

theorem takeRow_eq {l : List UInt8} {many most : Int} {R : Dg.Res} (h : Dg.takeRow l many most = R) (hl : l.length ≤ 4294967296)
    (m1 : -9223372036854775808 ≤ many) (m2 : many ≤ 9223372036854775807) (o1 : -9223372036854775808 ≤ most) (o2 : most ≤ 9223372036854775807) (w : World) :
    Calls Try.prog 21 #[tx l, .int .i64 many, .int .i64 most] w (TR R w) := by subst h; exact takeRow_any l many most hl m1 m2 o1 o2 w
theorem row_eq {v : Value} {ls : List (List UInt8)} {r : List UInt8} (h : Dg.row ls = r) (w : World) (hv : TxAt w v ls) (hl : ls.length ≤ 4294967296) (ht : (Dg.texts ls).length ≤ 4294967296) :
    Calls Try.prog 24 #[v] w fun e w' => e = .returned (tx r) ∧ Below w.heap.size w w' := by subst h; exact row_any v ls w hv hl ht

/-- What stands at the head of every way. -/
theorem digitsCut_neg (n : Nat) (hn : n < 18446744073709551616) (v : Value) (ls : List (List UInt8)) (cut : Int) (W : World) (hv : TxAt W v ls) (hl : ls.length ≤ 4294967296) (ht : (Dg.texts ls).length ≤ 4294967296) (hc : cut < 0) :
    Calls Try.prog 8 #[.int .u64 n, v, .int .i64 cut] W fun e W' => e = .returned (.bool true) ∧ Below W.heap.size W W' := by
  obtain ⟨nb, hnb⟩ : ∃ nb, Dg.num n = nb := ⟨_, rfl⟩
  obtain ⟨rb, hrb⟩ : ∃ rb, Dg.row ls = rb := ⟨_, rfl⟩
  have HV := Lib.hid hv
  have HN := Lib.hid hnb
  have HB := Lib.hid hrb
  clear hv hnb hrb
  go_enter Try.func8, Try.ntmps8
  go_wp2_with fail
  refine (shown_any _).mono ?_
  rintro e w1 ⟨rfl, g1⟩
  go_wp2_with fail
  refine (num_eq HN.out hn _).mono ?_
  rintro e w2 ⟨rfl, h2⟩
  have g2 := grow_trans g1 h2
  go_wp2_with fail
  refine (row_eq HB.out _ (HV.out.below g2) hl ht).mono ?_
  rintro e w3 ⟨rfl, h3⟩
  have g3 := grow_trans g2 h3
  go_wp2_with fail
  go_ret
  exact ⟨rfl, g3⟩

set_option maxHeartbeats 4000000 in
theorem digitsCut_pos (n : Nat) (hn : n < 18446744073709551616) (v : Value) (ls : List (List UInt8)) (c : Nat) (W : World) (hv : TxAt W v ls) (hl : ls.length ≤ 4294967296) (ht : (Dg.texts ls).length ≤ 1000000000) (hc : c ≤ 9223372036854775807)
    (hts : ∀ t ∈ ls, t.length < 18446744073709551616) :
    Calls Try.prog 8 #[.int .u64 n, v, .int .i64 c] W fun e W' => e = .returned (.bool true) ∧ Below W.heap.size W W' := by
  obtain ⟨aa, ca, rfl⟩ := hv.len
  obtain ⟨nb, hnb⟩ : ∃ nb, Dg.num n = nb := ⟨_, rfl⟩
  obtain ⟨rb, hrb⟩ : ∃ rb, Dg.row ls = rb := ⟨_, rfl⟩
  have hnl : nb.length ≤ 9 := by rw [← hnb]; exact Dg.num_len n
  have hrl : rb.length ≤ 1000000009 := by rw [← hrb, Dg.row, List.length_append]; have := Dg.num_len ls.length; omega
  obtain ⟨y, r, x, hT⟩ : ∃ y r x, Dg.takeNum (nb.take c) = (y, r, x) := ⟨_, _, _, rfl⟩
  obtain ⟨ts, r2, x2, hR⟩ : ∃ ts r x, Dg.takeRow (rb.take c) ls.length 1073741824 = (ts, r, x) := ⟨_, _, _, rfl⟩
  have hx : c < nb.length → x = 2 := fun h => by have := Dg.takeNum_cut n c (by rw [hnb]; exact h); rw [hnb, hT] at this; exact this
  have hx2 : c < rb.length → x2 ≠ 0 := fun h => by have := Dg.takeRow_cut ls c ls.length 1073741824 (by rw [hrb]; exact h) (by omega) hts; rw [hrb, hR] at this; exact this
  have HV := Lib.hid hv
  have HN := Lib.hid hnb
  have HB := Lib.hid hrb
  have HT := Lib.hid hT
  have HR := Lib.hid hR
  clear hv hnb hrb hT hR hts
  by_cases h1 : c < nb.length
  · obtain rfl := hx h1
    by_cases h2 : c < rb.length
    · have hx2 := hx2 h2
      have hx3 : ((x2 : Int) == 0) = false := by rw [beq_eq_false_iff_ne]; omega
      clear hx hx2
      go_enter Try.func8, Try.ntmps8
      go_wp2_with fail
      refine (shown_any _).mono ?_
      rintro e w1 ⟨rfl, g1⟩
      go_wp2_with fail
      refine (num_eq HN.out hn _).mono ?_
      rintro e w2 ⟨rfl, h2⟩
      have g2 := grow_trans g1 h2
      go_wp2_with fail
      refine (row_eq HB.out _ (HV.out.below g2) hl (by omega)).mono ?_
      rintro e w3 ⟨rfl, h3⟩
      have g3 := grow_trans g2 h3
      go_wp2_with fail
      rw [ba_take]
      refine (takeNum_eq HT.out (by simp; omega) _).mono ?_
      rintro e w4 ⟨rfl, k, rfl⟩
      have g3 := below_drewN g3 k
      go_wp2_with fail
      rw [ba_take]
      refine (takeRow_eq HR.out (by simp; omega) (by omega) (by omega) (by omega) (by omega) _).mono ?_
      rintro e w5 ⟨va, rfl, ta, h5⟩
      have g3 := grow_trans g3 h5
      clear ta
      go_wp2_with fail
      go_ret
      exact ⟨rfl, g3⟩
    · clear hx hx2
      go_enter Try.func8, Try.ntmps8
      go_wp2_with fail
      refine (shown_any _).mono ?_
      rintro e w1 ⟨rfl, g1⟩
      go_wp2_with fail
      refine (num_eq HN.out hn _).mono ?_
      rintro e w2 ⟨rfl, h2⟩
      have g2 := grow_trans g1 h2
      go_wp2_with fail
      refine (row_eq HB.out _ (HV.out.below g2) hl (by omega)).mono ?_
      rintro e w3 ⟨rfl, h3⟩
      have g3 := grow_trans g2 h3
      go_wp2_with fail
      rw [ba_take]
      refine (takeNum_eq HT.out (by simp; omega) _).mono ?_
      rintro e w4 ⟨rfl, k, rfl⟩
      have g3 := below_drewN g3 k
      go_wp2_with fail
      go_ret
      exact ⟨rfl, g3⟩
  · by_cases h2 : c < rb.length
    · have hx2 := hx2 h2
      have hx3 : ((x2 : Int) == 0) = false := by rw [beq_eq_false_iff_ne]; omega
      clear hx hx2
      go_enter Try.func8, Try.ntmps8
      go_wp2_with fail
      refine (shown_any _).mono ?_
      rintro e w1 ⟨rfl, g1⟩
      go_wp2_with fail
      refine (num_eq HN.out hn _).mono ?_
      rintro e w2 ⟨rfl, h2⟩
      have g2 := grow_trans g1 h2
      go_wp2_with fail
      refine (row_eq HB.out _ (HV.out.below g2) hl (by omega)).mono ?_
      rintro e w3 ⟨rfl, h3⟩
      have g3 := grow_trans g2 h3
      go_wp2_with fail
      rw [ba_take]
      refine (takeRow_eq HR.out (by simp; omega) (by omega) (by omega) (by omega) (by omega) _).mono ?_
      rintro e w5 ⟨va, rfl, ta, h5⟩
      have g3 := grow_trans g3 h5
      clear ta
      go_wp2_with fail
      go_ret
      exact ⟨rfl, g3⟩
    · clear hx hx2
      go_enter Try.func8, Try.ntmps8
      go_wp2_with fail
      refine (shown_any _).mono ?_
      rintro e w1 ⟨rfl, g1⟩
      go_wp2_with fail
      refine (num_eq HN.out hn _).mono ?_
      rintro e w2 ⟨rfl, h2⟩
      have g2 := grow_trans g1 h2
      go_wp2_with fail
      refine (row_eq HB.out _ (HV.out.below g2) hl (by omega)).mono ?_
      rintro e w3 ⟨rfl, h3⟩
      have g3 := grow_trans g2 h3
      go_wp2_with fail
      go_ret
      exact ⟨rfl, g3⟩

theorem digitsCut_walk {H : Type} (enc : TypeId × Value → H) (W : World) (base : Nat) (v0 : Value) (v1 : Value) (v2 : Value) (d0 : DataW H) (d1 : DataW H) (d2 : DataW H) (p0 : List MemPlace) (p1 : List MemPlace) (p2 : List MemPlace)
    (h0 : DataW.Trod enc Try.prog W 0 (fun _ => true) true 22 v0 d0 p0) (o0 : Value.okWide Try.prog W .any base 22 v0)
    (h1 : DataW.Trod enc Try.prog W 0 (fun _ => true) true 38 v1 d1 p1) (o1 : Value.okWide Try.prog W .any base 38 v1)
    (h2 : DataW.Trod enc Try.prog W 0 (fun _ => true) true 3 v2 d2 p2) (o2 : Value.okWide Try.prog W .any base 3 v2)
    (_hsz : (DataW.weightsEach Try.prog [22, 38, 3] [d0, d1, d2]).all (· ≤ reachBytes) = true) (hk : Rows.uptoSmall H [d0, d1, d2] = true) :
    Calls Try.prog 8 #[v0, v1, v2] W fun e W' => e = .returned (.bool true) ∧ Below W.heap.size W W' := by
  obtain ⟨n, hn, rfl, rfl, rfl⟩ := open_u64 Try.underlying22 o0 h0
  obtain ⟨cut, c1, c2, rfl, rfl, rfl⟩ := open_i64 Try.underlying3 o2 h2
  obtain ⟨aa, len, cap, rfl⟩ := okWide_slice Try.underlying38 o1
  obtain ⟨fuel, hf⟩ := h1
  obtain ⟨ls, tl, bl⟩ := trod_txs (y := (d1, p1)) Try.underlying38 hf
  have hb : Rows.uptoBulkAll [DataW.lit (.int .u64 n), d1, .lit (.int .i64 cut)] ≤ 1048576 := of_decide_eq_true hk
  simp only [Rows.uptoBulkAll, Rows.uptoBulk] at hb
  have e1 := Dg.sizes_len ls
  have e2 := Dg.texts_sizes ls
  simp only [] at bl
  by_cases hc : cut < 0
  · exact digitsCut_neg n hn _ ls cut W tl (by omega) (by omega) hc
  · obtain ⟨c, rfl⟩ := Int.eq_ofNat_of_zero_le (show 0 ≤ cut by omega)
    exact digitsCut_pos n hn _ ls c W tl (by omega) (by omega) (by omega) (fun t h => by have := Dg.sizes_le ls t h; omega)
end Go.Proofs.Ytedgcebcdcinhaa
