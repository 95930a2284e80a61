/- A batch that came in; the document's example; the contracts as equations. -/
import Derived.Test.YtlejffgmaokpnaaDoorOpenTxs2
import Derived.Test.YtlejffgmaokpnaaDoorBatBytes
namespace Go.Proofs.YtlejffgmaokpnaaDoor
open Go.RowKit Go.ChangeShapes Go.WideShapes Go.ChangeAt

section
variable {H : Type} {enc : TypeId × Value → H} {W : World} {base : Nat} {v : Value} {d : DataW H} {p : List MemPlace}
theorem open_bat (o : Value.okWide Tryd.prog W .any base 24 v) (h : DataW.Trod enc Tryd.prog W 0 (fun _ => true) true 24 v d p)
    (hsz : (DataW.weights Tryd.prog 24 d).all (· ≤ reachBytes) = true) :
    ∃ (b : Bt.Bat) (u : Value), v = batV b.1 b.2.1 u ∧ TxAt W u b.2.2 ∧ b.2.2.length ≤ 8796093021952 ∧ ∀ l ∈ b.2.2, l.length ≤ 140737488351232 := by
  obtain ⟨a0, a1, a2, y0, y1, y2, n, rfl, rfl, _, e0, e1, e2⟩ := Joins.open_agg3 Tryd.underlying24 (by kernel_rfl) (by kernel_rfl) o h
  obtain ⟨x, _, _, rfl, rfl⟩ := trod_i64 Tryd.underlying3 e0
  obtain ⟨q, _, _, rfl, rfl⟩ := trod_i64 Tryd.underlying3 e1
  have hs2 : (DataW.weights Tryd.prog 22 y2.1).all (· ≤ reachBytes) = true := by
    simp only [DataW.weights, Tryd.underlying24] at hsz
    exact sized_at hsz (j := 2) rfl rfl
  obtain ⟨ls, hv, hl, ht⟩ := trod_txsR Tryd.underlying22 e2 hs2
  exact ⟨(x, q, ls), a2, rfl, hv, hl, ht⟩
end

theorem pbmay_eq {b : Bt.Bat} {v : Value} {r : Bool} (h : Bt.may b = r) (w : World) (hv : TxAt w v b.2.2) (hl : b.2.2.length ≤ 140737488351232) :
    Calls Tryd.prog 10 #[batV b.1 b.2.1 v] w fun e w' => e = .returned (.bool r) ∧ Below w.heap.size w w' := by subst h; exact pbmay b.1 b.2.1 v b.2.2 w hv hl
theorem pbbytes_eq {b : Bt.Bat} {v : Value} {R : List UInt8 × Nat} (h : Bt.bytesR b = R) (w : World) (hv : TxAt w v b.2.2) (hl : b.2.2.length ≤ 140737488351232) :
    Calls Tryd.prog 6 #[batV b.1 b.2.1 v] w fun e w' => e = .returned (.tuple #[tx R.1, .int .i64 R.2]) ∧ Below w.heap.size w w' := by subst h; exact pbbytes b.1 b.2.1 v b.2.2 w hv hl

theorem bat_ex : Bt.bytesR (1, 2, [[97, 98]]) = ([1, 1, 1, 2, 1, 1, 1, 2, 97, 98], 0) := by decide
set_option maxHeartbeats 1000000 in
theorem batShown (w : World) : Calls Tryd.prog 5 #[] w fun e w' => e = .returned (.bool true) ∧ Below w.heap.size w w' := by
  have hv : TxAt (w.alloc (.cells #[tx [97, 98]] 9)) (.slice (some ⟨w.heap.size, 0, none⟩) 1 1) [[97, 98]] :=
    .inr ⟨w.heap.size, 0, 1, rfl, fun i hi => by
      have : i = 0 := by simpa using hi
      subst this
      simp⟩
  have hc := Lib.hid (pbbytes_eq (b := (1, 2, [[97, 98]])) bat_ex _ hv (by simp))
  clear hv
  go_enter Tryd.func5, Tryd.ntmps5
  go_wp2_with fail
  refine hc.out.mono ?_
  rintro e w1 ⟨rfl, hb⟩
  have hb2 : Below w.heap.size w w1 := ((Below.refl _ _).alloc (Nat.le_refl _) _).trans (hb.mono (by simp))
  go_wp2
  go_ret
  exact ⟨rfl, hb2⟩
end Go.Proofs.YtlejffgmaokpnaaDoor
