/- DigitsBack: the walk. -/
import Derived.Test.YtedgcebcdcinhaaDigShown
import Derived.Test.YtedgcebcdcinhaaDigSame
import Derived.Test.YtedgcebcdcinhaaDigTakeRow
import Derived.Test.YtedgcebcdcinhaaDigRow
import Derived.Test.YtedgcebcdcinhaaOpenTxs
import Derived.Test.YtedgcebcdcinhaaDigInv
namespace Go.Proofs.Ytedgcebcdcinhaa
open Go.RowKit Go.ChangeShapes Go.WideShapes Go.ChangeAt
attribute [local go_sem] ByteArray.mk_append_mk

theorem takeRow_eq {l : List UInt8} {many most : Int} {R : Dg.Res} (h : Dg.takeRow l many most = R) (hl : l.length ≤ 4294967296)
    (m1 : -9223372036854775808 ≤ many) (m2 : many ≤ 9223372036854775807) (o1 : -9223372036854775808 ≤ most) (o2 : most ≤ 9223372036854775807) (w : World) :
    Calls Try.prog 21 #[tx l, .int .i64 many, .int .i64 most] w (TR R w) := by subst h; exact takeRow_any l many most hl m1 m2 o1 o2 w
theorem row_eq {v : Value} {ls : List (List UInt8)} {r : List UInt8} (h : Dg.row ls = r) (w : World) (hv : TxAt w v ls) (hl : ls.length ≤ 4294967296) (ht : (Dg.texts ls).length ≤ 4294967296) :
    Calls Try.prog 24 #[v] w fun e w' => e = .returned (tx r) ∧ Below w.heap.size w w' := by subst h; exact row_any v ls w hv hl ht

theorem same_eq {va vb : Value} {a b : List (List UInt8)} {x : Bool} (h : (a == b) = x) (w : World) (ha : TxAt w va a) (hb : TxAt w vb b) (la : a.length ≤ 140737488351232) :
    Calls Try.prog 23 #[va, vb] w fun e w' => e = .returned (.bool x) ∧ ∃ n, w' = w.drewN n := by subst h; exact same_any va vb a b w ha hb la

set_option maxHeartbeats 8000000 in
theorem digitsBack_core (n : Nat) (hn : n < 18446744073709551616) (v : Value) (ls : List (List UInt8)) (s more : List UInt8) (W : World) (hv : TxAt W v ls) (hl : ls.length ≤ 4294967296) (ht : (Dg.texts ls).length ≤ 1000000000)
    (hs : s.length ≤ 1000000000) (hm : more.length ≤ 1000000000) (sl : ∀ t ∈ ls, t.length ≤ 1073741824) :
    Calls Try.prog 7 #[.agg #[.int .u64 n, v, tx s, tx more]] W fun e W' => e = .returned (.bool true) ∧ Below W.heap.size W W' := by
  obtain ⟨aa, ca, rfl⟩ := hv.len
  obtain ⟨nb, hnb⟩ : ∃ nb, Dg.num n = nb := ⟨_, rfl⟩
  obtain ⟨rb, hrb⟩ : ∃ rb, Dg.row ls = rb := ⟨_, rfl⟩
  have hnl : nb.length ≤ 9 := by rw [← hnb]; exact Dg.num_len n
  have hrl : rb.length ≤ 1000000009 := by rw [← hrb, Dg.row, List.length_append]; have := Dg.num_len ls.length; omega
  have e1 : Dg.takeNum (nb ++ more) = (n, more, 0) := by rw [← hnb]; exact Dg.takeNum_num n hn more
  have e2 : Dg.takeRow (rb ++ more) ls.length 1073741824 = (ls, more, 0) := by
    rw [← hrb]; exact Dg.takeRow_row ls more _ _ (by omega) (by omega) (fun t h => by have := sl t h; omega) (fun t h => by have := sl t h; omega)
  obtain ⟨y, r, x, e3⟩ : ∃ y r x, Dg.takeNum s = (y, r, x) := ⟨_, _, _, rfl⟩
  have hy := Dg.takeNum_bound s
  have hr := Dg.takeNum_rest s
  rw [e3] at hy hr
  simp only [] at hy hr
  have SL := Lib.hid sl
  have HV := Lib.hid hv
  have HN := Lib.hid hnb
  have RB := Lib.hid hrb
  have E1 := Lib.hid e1
  have E2 := Lib.hid e2
  have E3 := Lib.hid e3
  clear sl hv hnb hrb e1 e2 e3
  by_cases hx : x = 0
  · subst hx
    obtain ⟨yb, hyb⟩ : ∃ yb, Dg.num y = yb := ⟨_, rfl⟩
    have hback : yb ++ r = s := by rw [← hyb]; exact Dg.takeNum_back s r y E3.out
    have hyl : yb.length ≤ 9 := by rw [← hyb]; exact Dg.num_len y
    have HY := Lib.hid hyb
    clear hyb
    subst hback
    go_enter Try.func7, Try.ntmps7
    go_wp2_with fail
    refine (shown_any _).mono ?_
    rintro e w1 ⟨rfl, h1⟩
    have g1 : Below W.heap.size W w1 := grow_trans ((Below.refl _ _).alloc (Nat.le_refl _) _) h1
    go_wp2_with fail
    refine (num_eq HN.out hn _).mono ?_
    rintro e w2 ⟨rfl, h2⟩
    have g2 := grow_trans g1 h2
    go_wp2_with fail
    refine (takeNum_eq E1.out (by simp; omega) _).mono ?_
    rintro e w3 ⟨rfl, k3, rfl⟩
    have g3 := below_drewN g2 k3
    go_wp2_with fail
    refine (row_eq RB.out _ (HV.out.below g3) hl (by omega)).mono ?_
    rintro e w4 ⟨rfl, h4⟩
    have g4 := grow_trans g3 h4
    go_wp2_with fail
    refine (takeRow_eq E2.out (by simp; omega) (by omega) (by omega) (by omega) (by omega) _).mono ?_
    rintro e w5 ⟨v5, rfl, t5, h5⟩
    have g5 := grow_trans g4 h5
    have T5 := Lib.hid t5
    clear t5
    go_wp2_with fail
    refine (same_eq (beq_self_eq_true ls) _ T5.out (HV.out.below g5) (by omega)).mono ?_
    rintro e w6 ⟨rfl, k6, rfl⟩
    have g6 := below_drewN g5 k6
    go_wp2_with fail
    go_loop [15] (fun i => ∃ k : Nat, i = .int .i64 k ∧ k ≤ ls.length) (fun i => ls.length - (intOf i).toNat)
    case atStart => exact ⟨0, rfl, by omega⟩
    case round =>
      obtain ⟨k, rfl, hk⟩ := hrel
      by_cases hlt : k < ls.length
      · rcases HV.out with ⟨_, _, _, h0⟩ | ⟨bb, ob, cb, hvb, hcb⟩
        · rw [h0] at hlt; simp at hlt
        cases hvb
        have hc := below_cell g6 (hcb k hlt)
        have hts := SL.out ls[k] (List.getElem_mem hlt)
        have hno : ¬ (1073741824 : Int) < (ls[k].length : Int) := by omega
        clear hts hcb
        go_wp2_with fail
        go_round
        case rel => exact ⟨k + 1, by go_num, hlt⟩
        case measure => simp [intOf]; omega
      · obtain rfl : k = ls.length := by omega
        go_wp2_with fail
        refine (takeNum_eq E3.out (by omega) _).mono ?_
        rintro e w7 ⟨rfl, k7, rfl⟩
        have g7 := below_drewN g6 k7
        go_wp2_with fail
        refine (num_eq HY.out hy _).mono ?_
        rintro e w8 ⟨rfl, h8⟩
        have g8 := grow_trans (below_drewN g5 _) h8
        go_wp2_with fail
        go_ret
        exact ⟨rfl, g8⟩
  · have hx0 : ((x : Int) != 0) = true := by rw [bne_iff_ne]; omega
    clear hx
    go_enter Try.func7, Try.ntmps7
    go_wp2_with fail
    refine (shown_any _).mono ?_
    rintro e w1 ⟨rfl, h1⟩
    have g1 : Below W.heap.size W w1 := grow_trans ((Below.refl _ _).alloc (Nat.le_refl _) _) h1
    go_wp2_with fail
    refine (num_eq HN.out hn _).mono ?_
    rintro e w2 ⟨rfl, h2⟩
    have g2 := grow_trans g1 h2
    go_wp2_with fail
    refine (takeNum_eq E1.out (by simp; omega) _).mono ?_
    rintro e w3 ⟨rfl, k3, rfl⟩
    have g3 := below_drewN g2 k3
    go_wp2_with fail
    refine (row_eq RB.out _ (HV.out.below g3) hl (by omega)).mono ?_
    rintro e w4 ⟨rfl, h4⟩
    have g4 := grow_trans g3 h4
    go_wp2_with fail
    refine (takeRow_eq E2.out (by simp; omega) (by omega) (by omega) (by omega) (by omega) _).mono ?_
    rintro e w5 ⟨v5, rfl, t5, h5⟩
    have g5 := grow_trans g4 h5
    have T5 := Lib.hid t5
    clear t5
    go_wp2_with fail
    refine (same_eq (beq_self_eq_true ls) _ T5.out (HV.out.below g5) (by omega)).mono ?_
    rintro e w6 ⟨rfl, k6, rfl⟩
    have g6 := below_drewN g5 k6
    go_wp2_with fail
    go_loop [15] (fun i => ∃ k : Nat, i = .int .i64 k ∧ k ≤ ls.length) (fun i => ls.length - (intOf i).toNat)
    case atStart => exact ⟨0, rfl, by omega⟩
    case round =>
      obtain ⟨k, rfl, hk⟩ := hrel
      by_cases hlt : k < ls.length
      · rcases HV.out with ⟨_, _, _, h0⟩ | ⟨bb, ob, cb, hvb, hcb⟩
        · rw [h0] at hlt; simp at hlt
        cases hvb
        have hc := below_cell g6 (hcb k hlt)
        have hts := SL.out ls[k] (List.getElem_mem hlt)
        have hno : ¬ (1073741824 : Int) < (ls[k].length : Int) := by omega
        clear hts hcb
        go_wp2_with fail
        go_round
        case rel => exact ⟨k + 1, by go_num, hlt⟩
        case measure => simp [intOf]; omega
      · obtain rfl : k = ls.length := by omega
        go_wp2_with fail
        refine (takeNum_eq E3.out (by omega) _).mono ?_
        rintro e w7 ⟨rfl, k7, rfl⟩
        have g7 := below_drewN g6 k7
        go_wp2_with fail
        go_ret
        exact ⟨rfl, below_drewN g5 _⟩

theorem digitsBack_walk {H : Type} (enc : TypeId × Value → H) (W : World) (base : Nat) (v0 : Value) (d0 : DataW H) (p0 : List MemPlace)
    (h0 : DataW.Trod enc Try.prog W 0 (fun _ => true) true 49 v0 d0 p0) (o0 : Value.okWide Try.prog W .any base 49 v0)
    (_hsz : (DataW.weightsEach Try.prog [49] [d0]).all (· ≤ reachBytes) = true) (hk : Rows.uptoSmall H [d0] = true) :
    Calls Try.prog 7 #[v0] W fun e W' => e = .returned (.bool true) ∧ Below W.heap.size W W' := by
  obtain ⟨a0, a1, a2, a3, y0, y1, y2, y3, n, rfl, rfl, _, e0, e1, e2, e3⟩ := Joins.open_agg4 Try.underlying49 (by kernel_rfl) (by kernel_rfl) o0 h0
  obtain ⟨m, hm, rfl, rfl⟩ := trod_u64 Try.underlying22 e0
  obtain ⟨ls, tl, bl⟩ := trod_txs Try.underlying38 e1
  obtain ⟨s, rfl, rfl⟩ := trod_tx Try.underlying9 e2
  obtain ⟨more, rfl, rfl⟩ := trod_tx Try.underlying9 e3
  have hb : Rows.uptoBulkAll [DataW.agg [.lit (.int .u64 m), y1.1, .lit (.string s), .lit (.string more)]] ≤ 1048576 := of_decide_eq_true hk
  simp only [Rows.uptoBulkAll, Rows.uptoBulk] at hb
  have h1 := Dg.sizes_len ls
  have h2 := Dg.texts_sizes ls
  exact digitsBack_core m hm a1 ls s more W tl (by omega) (by omega) (by omega) (by omega) (fun t h => by have := Dg.sizes_le ls t h; omega)
end Go.Proofs.Ytedgcebcdcinhaa
