/- ShaWords: the walk. -/
import Derived.Test.YtfjkindhdnaknaaDoorShaShown
import Derived.Test.YtfjkindhdnaknaaDoorShaBlockN
import Derived.Test.YtfjkindhdnaknaaDoorShaRWords
import Derived.Deep.MidRow
namespace Go.Proofs.YtfjkindhdnaknaaDoor
open Go.RowKit Go.ChangeShapes Go.WideShapes Go.ChangeAt

theorem range_words {w : World} {l : List Nat} (hl : Sh.words = l) (hw : GW w) : w.rangeAt 0 0 (l.map uv) := by
  intro j u hj
  rw [List.getElem?_map, Option.map_eq_some_iff] at hj
  obtain ⟨x, hx, rfl⟩ := hj
  have hlt := (List.getElem?_eq_some_iff.1 hx).1
  have h64 : l.length = 64 := by rw [← hl]; exact Sh.words_len
  have h := hw j (by omega)
  rw [hl, List.getD, hx] at h
  rw [Nat.zero_add]
  exact h

set_option maxHeartbeats 1000000 in
set_option maxRecDepth 100000 in
theorem pwords (cw : List Nat) (hcw : Sh.words = cw) (w : World) (hw : GW w) : Calls Tryd.prog 12 #[] w fun e w' => e = .returned (.agg (cw.map uv).toArray) ∧ Below w.heap.size w w' := by
  have h64 : cw.length = 64 := by rw [← hcw]; exact Sh.words_len
  have hg0 : Below w.heap.size w (w.alloc (.cells ((List.replicate 64 0).map uv).toArray 24)) := (Below.refl _ _).alloc (Nat.le_refl _) _
  have HZ := Lib.hid (ARow.new w 24 (List.replicate 64 0))
  have HRG := Lib.hid (range_words hcw (hw.below hg0))
  have HG := Lib.hid hg0
  have hin : (Tryd.prog.info? 24).map (·.size) = some (cw.map uv).length := by rw [info64, List.length_map, h64]
  clear hg0 hw hcw
  go_enter Tryd.func12, Tryd.ntmps12
  go_wp2_with (first
    | (refine wpList_load_mid rfl 24 _ rfl 0 0 rfl (cw.map uv) _ HRG.out Tryd.underlying24 rfl hin ?_)
    | (refine store_arow rfl 24 _ _ rfl w.heap.size (List.replicate 64 0) cw rfl rfl HZ.out 64 info64 (by simp) h64 ?_; intro w2 k1 k2 k3))
  refine bodyPost_ret (v := .agg (cw.map uv).toArray) (results_cell_row rfl _ _ w.heap.size 24 _ (0, 0) _ rfl k1 Tryd.underlying24 rfl (by rw [info64]; simp [h64])) rfl ⟨rfl, k2 _ _ (Nat.le_refl _) HG.out⟩

set_option maxHeartbeats 1000000 in
set_option maxRecDepth 100000 in
theorem shaWords_walk {H : Type} (_enc : TypeId × Value → H) (W : World) (_base : Nat) (_hsz : (DataW.weightsEach (H := H) Tryd.prog [] []).all (· ≤ reachBytes) = true) (hg : GW W) :
    Calls Tryd.prog 3 #[] W fun e W' => e = .returned (.bool true) ∧ Below W.heap.size W W' := by
  obtain ⟨cw, hcw⟩ : ∃ cw, Sh.words = cw := ⟨_, rfl⟩
  obtain ⟨cf, hcf⟩ : ∃ cf, Sh.first = cf := ⟨_, rfl⟩
  have H1 := Lib.hid (shaShown W hg)
  have H2 := Lib.hid (fun w h => pwords cw hcw w h)
  have H3 := Lib.hid rwords
  have H4 := Lib.hid pfirst
  have H5 := Lib.hid rfirst
  have h64 : cw.length = 64 := by rw [← hcw]; exact Sh.words_len
  have h8 : cf.length = 8 := by rw [← hcf]; rfl
  rw [hcw] at H3
  rw [hcf] at H4 H5
  have HGW := Lib.hid hg
  have e8 : ∀ w, (Op.equalIn 10000 26 (.agg (cf.map uv).toArray) (.agg (cf.map uv).toArray)).run Tryd.prog w = .ok true w := fun w => eq_self8 cf h8 w
  have e64 : ∀ w, (Op.equalIn 10000 24 (.agg (cw.map uv).toArray) (.agg (cw.map uv).toArray)).run Tryd.prog w = .ok true w := fun w => eq_self64 cw h64 w
  have eg : ∀ (op : BinOp) (o1 o2 : Operand) (xs ys : Array Value) (w : World), (eqGuard op 26 o1 o2 (.agg xs) (.agg ys)).run Tryd.prog w = .ok () w := fun op o1 o2 xs ys w => run_eqGuard_agg w op 26 o1 o2 xs ys (by kernel_rfl)
  have eg2 : ∀ (op : BinOp) (o1 o2 : Operand) (xs ys : Array Value) (w : World), (eqGuard op 24 o1 o2 (.agg xs) (.agg ys)).run Tryd.prog w = .ok () w := fun op o1 o2 xs ys w => run_eqGuard_agg w op 24 o1 o2 xs ys (by kernel_rfl)
  clear hcw hcf hg h64 h8
  go_enter Tryd.func3, Tryd.ntmps3
  go_wp2_with fail
  refine H1.out.mono ?_
  rintro ee w1 ⟨rfl, g1⟩
  go_wp2_with fail
  refine (H2.out _ (HGW.out.below g1)).mono ?_
  rintro ee w2 ⟨rfl, g2⟩
  go_wp2_with fail
  refine (H3.out _).mono ?_
  rintro ee w3 ⟨rfl, g3⟩
  go_wp2_with fail
  refine (H4.out _).mono ?_
  rintro ee w4 ⟨rfl, g4⟩
  go_wp2_with fail
  refine (H5.out _).mono ?_
  rintro ee w5 ⟨rfl, g5⟩
  have HG := Lib.hid (grow_trans (grow_trans (grow_trans (grow_trans g1 g2) g3) g4) g5)
  clear g1 g2 g3 g4 g5
  go_wp2
  go_ret
  exact ⟨rfl, HG.out⟩
end Go.Proofs.YtfjkindhdnaknaaDoor
