/- DigitsRows: the walk. -/
import Derived.Test.YtedgcebcdcinhaaDigShown
import Derived.Test.YtedgcebcdcinhaaDigSame
import Derived.Test.YtedgcebcdcinhaaDigTakeRow
import Derived.Test.YtedgcebcdcinhaaDigRow
import Derived.Test.YtedgcebcdcinhaaOpenTxs
namespace Go.Proofs.Ytedgcebcdcinhaa
open Go.RowKit Go.ChangeShapes Go.WideShapes Go.ChangeAt

theorem takeRow_eq {l : List UInt8} {many most : Int} {R : Dg.Res} (h : Dg.takeRow l many most = R) (hl : l.length ≤ 4294967296)
    (m1 : -9223372036854775808 ≤ many) (m2 : many ≤ 9223372036854775807) (o1 : -9223372036854775808 ≤ most) (o2 : most ≤ 9223372036854775807) (w : World) :
    Calls Try.prog 21 #[tx l, .int .i64 many, .int .i64 most] w (TR R w) := by subst h; exact takeRow_any l many most hl m1 m2 o1 o2 w
theorem rtakeRow_eq {l : List UInt8} {many most : Int} {R : Dg.Res} (h : Dg.takeRow l many most = R) (hl : l.length ≤ 4294967296)
    (m1 : -9223372036854775808 ≤ many) (m2 : many ≤ 9223372036854775807) (o1 : -9223372036854775808 ≤ most) (o2 : most ≤ 9223372036854775807) (w : World) :
    Calls Try.prog 22 #[tx l, .int .i64 many, .int .i64 most] w (TR R w) := by subst h; exact rtakeRow_any l many most hl m1 m2 o1 o2 w
theorem row_eq {v : Value} {ls : List (List UInt8)} {r : List UInt8} (h : Dg.row ls = r) (w : World) (hv : TxAt w v ls) (hl : ls.length ≤ 4294967296) (ht : (Dg.texts ls).length ≤ 4294967296) :
    Calls Try.prog 24 #[v] w fun e w' => e = .returned (tx r) ∧ Below w.heap.size w w' := by subst h; exact row_any v ls w hv hl ht
theorem rrow_eq {v : Value} {ls : List (List UInt8)} {r : List UInt8} (h : Dg.row ls = r) (w : World) (hv : TxAt w v ls) (hl : ls.length ≤ 4294967296) (ht : (Dg.texts ls).length ≤ 4294967296) :
    Calls Try.prog 25 #[v] w fun e w' => e = .returned (tx r) ∧ Below w.heap.size w w' := by subst h; exact rrow_any v ls w hv hl ht
theorem same_eq {va vb : Value} {a b : List (List UInt8)} {x : Bool} (h : (a == b) = x) (w : World) (ha : TxAt w va a) (hb : TxAt w vb b) (la : a.length ≤ 140737488351232) :
    Calls Try.prog 23 #[va, vb] w fun e w' => e = .returned (.bool x) ∧ ∃ n, w' = w.drewN n := by subst h; exact same_any va vb a b w ha hb la

set_option maxHeartbeats 2000000 in
theorem digitsRows_core (v : Value) (ls : List (List UInt8)) (s : List UInt8) (many most : Int) (W : World) (hv : TxAt W v ls) (hl : ls.length ≤ 4294967296) (ht : (Dg.texts ls).length ≤ 4294967296) (hs : s.length ≤ 4294967296)
    (m1 : -9223372036854775808 ≤ many) (m2 : many ≤ 9223372036854775807) (o1 : -9223372036854775808 ≤ most) (o2 : most ≤ 9223372036854775807) :
    Calls Try.prog 6 #[.agg #[v, tx s, .int .i64 many, .int .i64 most]] W fun e W' => e = .returned (.bool true) ∧ Below W.heap.size W W' := by
  obtain ⟨ts, r, x, hR⟩ : ∃ ts r x, Dg.takeRow s many most = (ts, r, x) := ⟨_, _, _, rfl⟩
  obtain ⟨rb, hrb⟩ : ∃ rb, Dg.row ls = rb := ⟨_, rfl⟩
  have hlen := Dg.takeRow_len s many most
  rw [hR] at hlen
  simp only [] at hlen
  obtain ⟨hlt, hlr⟩ := hlen
  have HV := Lib.hid hv
  have HR := Lib.hid hR
  have HB := Lib.hid hrb
  clear hv hR hrb
  go_enter Try.func6, Try.ntmps6
  go_wp2_with fail
  refine (shown_any _).mono ?_
  rintro e w1 ⟨rfl, h1⟩
  have g1 : Below W.heap.size W w1 := grow_trans ((Below.refl _ _).alloc (Nat.le_refl _) _) h1
  go_wp2_with fail
  refine (takeRow_eq HR.out hs m1 m2 o1 o2 _).mono ?_
  rintro e w2 ⟨va, rfl, ta, h2⟩
  have g2 := grow_trans g1 h2
  have TA := Lib.hid ta
  clear ta
  go_wp2_with fail
  refine (rtakeRow_eq HR.out hs m1 m2 o1 o2 _).mono ?_
  rintro e w3 ⟨vb, rfl, tb, h3⟩
  have g3 := grow_trans g2 h3
  have TB := Lib.hid tb
  clear tb
  go_wp2_with fail
  refine (same_eq (beq_self_eq_true ts) _ (TA.out.below h3) TB.out (by omega)).mono ?_
  rintro e w4 ⟨rfl, k, rfl⟩
  have g4 := below_drewN g3 k
  go_wp2_with fail
  refine (row_eq HB.out _ (HV.out.below g4) hl ht).mono ?_
  rintro e w5 ⟨rfl, h5⟩
  have g5 := grow_trans g4 h5
  go_wp2_with fail
  refine (rrow_eq HB.out _ (HV.out.below g5) hl ht).mono ?_
  rintro e w6 ⟨rfl, h6⟩
  have g6 := grow_trans g5 h6
  go_wp2_with fail
  go_ret
  exact ⟨rfl, g6⟩

theorem digitsRows_walk {H : Type} (enc : TypeId × Value → H) (W : World) (base : Nat) (v0 : Value) (d0 : DataW H) (p0 : List MemPlace)
    (h0 : DataW.Trod enc Try.prog W 0 (fun _ => true) true 40 v0 d0 p0) (o0 : Value.okWide Try.prog W .any base 40 v0)
    (_hsz : (DataW.weightsEach Try.prog [40] [d0]).all (· ≤ reachBytes) = true) (hk : Rows.uptoSmall H [d0] = true) :
    Calls Try.prog 6 #[v0] W fun e W' => e = .returned (.bool true) ∧ Below W.heap.size W W' := by
  obtain ⟨a0, a1, a2, a3, y0, y1, y2, y3, n, rfl, rfl, _, e0, e1, e2, e3⟩ := Joins.open_agg4 Try.underlying40 (by kernel_rfl) (by kernel_rfl) o0 h0
  obtain ⟨ls, tl, bl⟩ := trod_txs Try.underlying38 e0
  obtain ⟨s, rfl, rfl⟩ := trod_tx Try.underlying9 e1
  obtain ⟨many, m1, m2, rfl, rfl⟩ := trod_i64 Try.underlying3 e2
  obtain ⟨most, o1, o2, rfl, rfl⟩ := trod_i64 Try.underlying3 e3
  have hb : Rows.uptoBulkAll [DataW.agg [y0.1, .lit (.string s), .lit (.int .i64 many), .lit (.int .i64 most)]] ≤ 1048576 := of_decide_eq_true hk
  simp only [Rows.uptoBulkAll, Rows.uptoBulk] at hb
  have h1 := Dg.sizes_len ls
  have h2 := Dg.texts_sizes ls
  exact digitsRows_core a0 ls s many most W tl (by omega) (by omega) (by omega) m1 m2 o1 o2
end Go.Proofs.Ytedgcebcdcinhaa
