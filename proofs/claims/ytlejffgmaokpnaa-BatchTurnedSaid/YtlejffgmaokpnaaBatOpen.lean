/- A batch that came in; the document's example; the contracts as equations. -/
import Derived.Test.YtlejffgmaokpnaaOpenTxs2
import Derived.Test.YtlejffgmaokpnaaBatBytes
namespace Go.Proofs.Ytlejffgmaokpnaa
open Go.RowKit Go.ChangeShapes Go.WideShapes Go.ChangeAt

section
variable {H : Type} {enc : TypeId × Value → H} {W : World} {base : Nat} {v : Value} {d : DataW H} {p : List MemPlace}
theorem open_bat (o : Value.okWide Try.prog W .any base 25 v) (h : DataW.Trod enc Try.prog W 0 (fun _ => true) true 25 v d p)
    (hsz : (DataW.weights Try.prog 25 d).all (· ≤ reachBytes) = true) :
    ∃ (b : Bt.Bat) (u : Value), v = batV b.1 b.2.1 u ∧ TxAt W u b.2.2 ∧ b.2.2.length ≤ 8796093021952 ∧ ∀ l ∈ b.2.2, l.length ≤ 140737488351232 := by
  obtain ⟨a0, a1, a2, y0, y1, y2, n, rfl, rfl, _, e0, e1, e2⟩ := Joins.open_agg3 Try.underlying25 (by kernel_rfl) (by kernel_rfl) o h
  obtain ⟨x, _, _, rfl, rfl⟩ := trod_i64 Try.underlying3 e0
  obtain ⟨q, _, _, rfl, rfl⟩ := trod_i64 Try.underlying3 e1
  have hs2 : (DataW.weights Try.prog 23 y2.1).all (· ≤ reachBytes) = true := by
    simp only [DataW.weights, Try.underlying25] at hsz
    exact sized_at hsz (j := 2) rfl rfl
  obtain ⟨ls, hv, hl, ht⟩ := trod_txsR Try.underlying23 e2 hs2
  exact ⟨(x, q, ls), a2, rfl, hv, hl, ht⟩
end

theorem pbtake_eq {s : List UInt8} {R : Bt.Bat × Nat} (h : Bt.take s = R) (hs : s.length ≤ 140737488351232) (w : World) : Calls Try.prog 9 #[tx s] w (TB R w) := by subst h; exact pbtake s hs w
theorem rbtake_eq {s : List UInt8} {R : Bt.Bat × Nat} (h : Bt.take s = R) (hs : s.length ≤ 140737488351232) (w : World) : Calls Try.prog 10 #[tx s] w (TB R w) := by subst h; exact rbtake s hs w
theorem rbsame_eq {a b : Bt.Bat} {va vb : Value} {r : Bool} (h : (a == b) = r) (w : World) (ha : TxAt w va a.2.2) (hb : TxAt w vb b.2.2) (la : a.2.2.length ≤ 140737488351232) :
    Calls Try.prog 11 #[batV a.1 a.2.1 va, batV b.1 b.2.1 vb] w fun e w' => e = .returned (.bool r) ∧ Below w.heap.size w w' := by subst h; exact rbsame a.1 a.2.1 b.1 b.2.1 va vb a.2.2 b.2.2 w ha hb la
theorem pbsame_eq {a b : Bt.Bat} {va vb : Value} {r : Bool} (h : (a == b) = r) (w : World) (ha : TxAt w va a.2.2) (hb : TxAt w vb b.2.2) (la : a.2.2.length ≤ 140737488351232) :
    Calls Try.prog 12 #[batV a.1 a.2.1 va, batV b.1 b.2.1 vb] w fun e w' => e = .returned (.bool r) ∧ Below w.heap.size w w' := by subst h; exact pbsame a.1 a.2.1 b.1 b.2.1 va vb a.2.2 b.2.2 w ha hb la
theorem pbmay_eq {b : Bt.Bat} {v : Value} {r : Bool} (h : Bt.may b = r) (w : World) (hv : TxAt w v b.2.2) (hl : b.2.2.length ≤ 140737488351232) :
    Calls Try.prog 14 #[batV b.1 b.2.1 v] w fun e w' => e = .returned (.bool r) ∧ Below w.heap.size w w' := by subst h; exact pbmay b.1 b.2.1 v b.2.2 w hv hl
theorem pbbytes_eq {b : Bt.Bat} {v : Value} {R : List UInt8 × Nat} (h : Bt.bytesR b = R) (w : World) (hv : TxAt w v b.2.2) (hl : b.2.2.length ≤ 140737488351232) :
    Calls Try.prog 13 #[batV b.1 b.2.1 v] w fun e w' => e = .returned (.tuple #[tx R.1, .int .i64 R.2]) ∧ Below w.heap.size w w' := by subst h; exact pbbytes b.1 b.2.1 v b.2.2 w hv hl

theorem bat_ex : Bt.bytesR (1, 2, [[97, 98]]) = ([1, 1, 1, 2, 1, 1, 1, 2, 97, 98], 0) := by decide
set_option maxHeartbeats 1000000 in
theorem batShown (w : World) : Calls Try.prog 8 #[] w fun e w' => e = .returned (.bool true) ∧ Below w.heap.size w w' := by
  have hv : TxAt (w.alloc (.cells #[tx [97, 98]] 9)) (.slice (some ⟨w.heap.size, 0, none⟩) 1 1) [[97, 98]] :=
    .inr ⟨w.heap.size, 0, 1, rfl, fun i hi => by
      have : i = 0 := by simpa using hi
      subst this
      simp⟩
  have hc := Lib.hid (pbbytes_eq (b := (1, 2, [[97, 98]])) bat_ex _ hv (by simp))
  clear hv
  go_enter Try.func8, Try.ntmps8
  go_wp2_with fail
  refine hc.out.mono ?_
  rintro e w1 ⟨rfl, hb⟩
  have hb2 : Below w.heap.size w w1 := ((Below.refl _ _).alloc (Nat.le_refl _) _).trans (hb.mono (by simp))
  go_wp2
  go_ret
  exact ⟨rfl, hb2⟩
end Go.Proofs.Ytlejffgmaokpnaa
