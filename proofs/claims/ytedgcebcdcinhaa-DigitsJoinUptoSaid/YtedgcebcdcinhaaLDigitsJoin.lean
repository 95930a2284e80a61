/- DigitsJoin: the walk. -/
import Derived.Test.YtedgcebcdcinhaaDigShown
import Derived.Test.YtedgcebcdcinhaaDigSame
import Derived.Test.YtedgcebcdcinhaaDigTakeRow
import Derived.Test.YtedgcebcdcinhaaDigRow
import Derived.Test.YtedgcebcdcinhaaOpenTxs
import Derived.Test.YtedgcebcdcinhaaDigInv
namespace Go.Proofs.Ytedgcebcdcinhaa
open Go.RowKit Go.ChangeShapes Go.WideShapes Go.ChangeAt
attribute [local go_sem] ByteArray.mk_append_mk

theorem takeRow_eq {l : List UInt8} {many most : Int} {R : Dg.Res} (h : Dg.takeRow l many most = R) (hl : l.length ≤ 4294967296)
    (m1 : -9223372036854775808 ≤ many) (m2 : many ≤ 9223372036854775807) (o1 : -9223372036854775808 ≤ most) (o2 : most ≤ 9223372036854775807) (w : World) :
    Calls Try.prog 21 #[tx l, .int .i64 many, .int .i64 most] w (TR R w) := by subst h; exact takeRow_any l many most hl m1 m2 o1 o2 w
theorem row_eq {v : Value} {ls : List (List UInt8)} {r : List UInt8} (h : Dg.row ls = r) (w : World) (hv : TxAt w v ls) (hl : ls.length ≤ 4294967296) (ht : (Dg.texts ls).length ≤ 4294967296) :
    Calls Try.prog 24 #[v] w fun e w' => e = .returned (tx r) ∧ Below w.heap.size w w' := by subst h; exact row_any v ls w hv hl ht

theorem same_eq {va vb : Value} {a b : List (List UInt8)} {x : Bool} (h : (a == b) = x) (w : World) (ha : TxAt w va a) (hb : TxAt w vb b) (la : a.length ≤ 140737488351232) :
    Calls Try.prog 23 #[va, vb] w fun e w' => e = .returned (.bool x) ∧ ∃ n, w' = w.drewN n := by subst h; exact same_any va vb a b w ha hb la

set_option maxHeartbeats 4000000 in
theorem digitsJoin_core (va vb : Value) (a b : List (List UInt8)) (W : World) (ha : TxAt W va a) (hb : TxAt W vb b) (la : a.length ≤ 4294967296) (lb : b.length ≤ 4294967296) (ta : (Dg.texts a).length ≤ 1000000000) (tb : (Dg.texts b).length ≤ 1000000000)
    (sa : ∀ t ∈ a, t.length ≤ 1073741824) (sb : ∀ t ∈ b, t.length ≤ 1073741824) :
    Calls Try.prog 11 #[va, vb] W fun e W' => e = .returned (.bool true) ∧ Below W.heap.size W W' := by
  obtain ⟨aa, ca, rfl⟩ := ha.len
  obtain ⟨ab, cb, rfl⟩ := hb.len
  obtain ⟨ra, hra⟩ : ∃ ra, Dg.row a = ra := ⟨_, rfl⟩
  obtain ⟨rb, hrb⟩ : ∃ rb, Dg.row b = rb := ⟨_, rfl⟩
  have hla : ra.length ≤ 1000000009 := by rw [← hra, Dg.row, List.length_append]; have := Dg.num_len a.length; omega
  have hlb : rb.length ≤ 1000000009 := by rw [← hrb, Dg.row, List.length_append]; have := Dg.num_len b.length; omega
  obtain ⟨l, r, x, hR⟩ : ∃ l r x, Dg.takeRow (ra ++ rb) 1048576 1073741824 = (l, r, x) := ⟨_, _, _, rfl⟩
  have HA := Lib.hid ha
  have HB := Lib.hid hb
  have RA := Lib.hid hra
  have RB := Lib.hid hrb
  have HR := Lib.hid hR
  clear ha hb hra hrb hR
  by_cases hbig : 1000 < a.length ∨ 1000 < b.length
  · have hd : (1000 : Int) < (a.length : Int) ∨ (1000 : Int) < (b.length : Int) := by omega
    rcases hd with hd | hd
    · go_enter Try.func11, Try.ntmps11
      go_wp2_with fail
      refine (shown_any _).mono ?_
      rintro e w1 ⟨rfl, g1⟩
      go_wp2_with fail
      refine (row_eq RA.out _ (HA.out.below g1) la (by omega)).mono ?_
      rintro e w2 ⟨rfl, h2⟩
      have g2 := grow_trans g1 h2
      go_wp2_with fail
      refine (row_eq RB.out _ (HB.out.below g2) lb (by omega)).mono ?_
      rintro e w3 ⟨rfl, h3⟩
      have g3 := grow_trans g2 h3
      go_wp2_with fail
      refine (takeRow_eq HR.out (by simp; omega) (by omega) (by omega) (by omega) (by omega) _).mono ?_
      rintro e w4 ⟨v4, rfl, t4, h4⟩
      have g4 := grow_trans g3 h4
      clear t4
      go_wp2_with fail
      go_ret
      exact ⟨rfl, g4⟩
    · go_enter Try.func11, Try.ntmps11
      go_wp2_with fail
      refine (shown_any _).mono ?_
      rintro e w1 ⟨rfl, g1⟩
      go_wp2_with fail
      refine (row_eq RA.out _ (HA.out.below g1) la (by omega)).mono ?_
      rintro e w2 ⟨rfl, h2⟩
      have g2 := grow_trans g1 h2
      go_wp2_with fail
      refine (row_eq RB.out _ (HB.out.below g2) lb (by omega)).mono ?_
      rintro e w3 ⟨rfl, h3⟩
      have g3 := grow_trans g2 h3
      go_wp2_with fail
      refine (takeRow_eq HR.out (by simp; omega) (by omega) (by omega) (by omega) (by omega) _).mono ?_
      rintro e w4 ⟨v4, rfl, t4, h4⟩
      have g4 := grow_trans g3 h4
      clear t4
      by_cases hda : (1000 : Int) < (a.length : Int)
      · go_wp2_with fail
        go_ret
        exact ⟨rfl, g4⟩
      · go_wp2_with fail
        go_ret
        exact ⟨rfl, g4⟩
  · have e1 : Dg.takeRow (ra ++ rb) 1048576 1073741824 = (a, rb, 0) := by
      rw [← RA.out]
      exact Dg.takeRow_row a rb _ _ (by omega) (by omega) (fun t h => by have := sa t h; omega) (fun t h => by have := sa t h; omega)
    have e2 : Dg.takeRow rb 1048576 1073741824 = (b, [], 0) := by
      rw [← RB.out, ← List.append_nil (Dg.row b)]
      exact Dg.takeRow_row b [] _ _ (by omega) (by omega) (fun t h => by have := sb t h; omega) (fun t h => by have := sb t h; omega)
    have E1 := Lib.hid e1
    have E2 := Lib.hid e2
    have hda : ¬ (1000 : Int) < (a.length : Int) := by omega
    have hdb : ¬ (1000 : Int) < (b.length : Int) := by omega
    clear e1 e2 hbig sa sb HR
    go_enter Try.func11, Try.ntmps11
    go_wp2_with fail
    refine (shown_any _).mono ?_
    rintro e w1 ⟨rfl, g1⟩
    go_wp2_with fail
    refine (row_eq RA.out _ (HA.out.below g1) la (by omega)).mono ?_
    rintro e w2 ⟨rfl, h2⟩
    have g2 := grow_trans g1 h2
    go_wp2_with fail
    refine (row_eq RB.out _ (HB.out.below g2) lb (by omega)).mono ?_
    rintro e w3 ⟨rfl, h3⟩
    have g3 := grow_trans g2 h3
    go_wp2_with fail
    refine (takeRow_eq E1.out (by simp; omega) (by omega) (by omega) (by omega) (by omega) _).mono ?_
    rintro e w4 ⟨v4, rfl, t4, h4⟩
    have g4 := grow_trans g3 h4
    have T4 := Lib.hid t4
    clear t4
    go_wp2_with fail
    refine (takeRow_eq E2.out (by omega) (by omega) (by omega) (by omega) (by omega) _).mono ?_
    rintro e w5 ⟨v5, rfl, t5, h5⟩
    have g5 := grow_trans g4 h5
    have T5 := Lib.hid t5
    clear t5
    go_wp2_with fail
    refine (same_eq (beq_self_eq_true a) _ (T4.out.below h5) (HA.out.below g5) (by omega)).mono ?_
    rintro e w6 ⟨rfl, k6, rfl⟩
    have g6 := below_drewN g5 k6
    have T6 := Lib.hid (T5.out.below (grow_draws _ k6))
    go_wp2_with fail
    refine (same_eq (beq_self_eq_true b) _ T6.out (HB.out.below g6) (by omega)).mono ?_
    rintro e w7 ⟨rfl, k7, rfl⟩
    have g7 := below_drewN g6 k7
    go_wp2_with fail
    go_ret
    exact ⟨rfl, below_drewN g5 _⟩

theorem digitsJoin_walk {H : Type} (enc : TypeId × Value → H) (W : World) (base : Nat) (v0 : Value) (v1 : Value) (d0 : DataW H) (d1 : DataW H) (p0 : List MemPlace) (p1 : List MemPlace)
    (h0 : DataW.Trod enc Try.prog W 0 (fun _ => true) true 38 v0 d0 p0) (o0 : Value.okWide Try.prog W .any base 38 v0)
    (h1 : DataW.Trod enc Try.prog W 0 (fun _ => true) true 38 v1 d1 p1) (o1 : Value.okWide Try.prog W .any base 38 v1)
    (_hsz : (DataW.weightsEach Try.prog [38, 38] [d0, d1]).all (· ≤ reachBytes) = true) (hk : Rows.uptoSmall H [d0, d1] = true) :
    Calls Try.prog 11 #[v0, v1] W fun e W' => e = .returned (.bool true) ∧ Below W.heap.size W W' := by
  obtain ⟨aa, la, ca, rfl⟩ := okWide_slice Try.underlying38 o0
  obtain ⟨ab, lb, cb, rfl⟩ := okWide_slice Try.underlying38 o1
  obtain ⟨f0, h0⟩ := h0
  obtain ⟨f1, h1⟩ := h1
  obtain ⟨a, ta, ba⟩ := trod_txs (y := (d0, p0)) Try.underlying38 h0
  obtain ⟨b, tb, bb⟩ := trod_txs (y := (d1, p1)) Try.underlying38 h1
  have hb : Rows.uptoBulkAll [d0, d1] ≤ 1048576 := of_decide_eq_true hk
  simp only [Rows.uptoBulkAll] at hb
  simp only [] at ba bb
  have e1 := Dg.sizes_len a
  have e2 := Dg.texts_sizes a
  have e3 := Dg.sizes_len b
  have e4 := Dg.texts_sizes b
  exact digitsJoin_core _ _ a b W ta tb (by omega) (by omega) (by omega) (by omega) (fun t h => by have := Dg.sizes_le a t h; omega) (fun t h => by have := Dg.sizes_le b t h; omega)
end Go.Proofs.Ytedgcebcdcinhaa
