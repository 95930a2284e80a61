/- CertOwn: the walk. -/
import Derived.Test.YtflmfbcjmjlkbaaDoorCrB
namespace Go.Proofs.YtflmfbcjmjlkbaaDoor
open Go.RowKit Go.ChangeShapes Go.WideShapes Go.ChangeAt
set_option maxRecDepth 100000

set_option maxHeartbeats 2000000 in
theorem certOwn_core (a b : List UInt8) (W : World) (ha : a.length ≤ 140737488351232) (hb : b.length ≤ 140737488351232) (hw : GW W) :
    Calls Tryd.prog 8 #[tx a, tx b] W fun e W' => e = .returned (.bool true) ∧ Below W.heap.size W W' := by
  have HW := Lib.hid hw
  obtain ⟨z, hz⟩ : ∃ z, (a == b) = z := ⟨_, rfl⟩
  have t1 : (Cr.hd a == Cr.yd b) = false := by rw [beq_eq_false_iff_ne]; intro e; simp [Cr.hd, Cr.yd] at e
  have t2 : (Cr.yd a == Cr.od b) = false := by rw [beq_eq_false_iff_ne]; intro e; simp [Cr.yd, Cr.od] at e
  have t3 : (Cr.hd a == Cr.od b) = false := by rw [beq_eq_false_iff_ne]; intro e; simp [Cr.hd, Cr.od] at e
  have t4 : (Cr.yd a == Cr.yd b) = z := by
    rw [← hz, Bool.eq_iff_iff, beq_iff_eq, beq_iff_eq]; simp [Cr.yd]
  have h1 := fun W => pheader a ha W
  have h2 := fun W => pvote a ha W
  have h3 := fun W => pvote b hb W
  have h4 := fun W => porigin b hb W
  have h5 := fun W => porigin b hb W
  generalize Cr.hd a = x1 at *
  generalize Cr.yd a = x2 at *
  generalize Cr.yd b = x3 at *
  generalize Cr.od b = x4 at *
  have H1 := Lib.hid h1
  have H2 := Lib.hid h2
  have H3 := Lib.hid h3
  have H4 := Lib.hid h4
  clear h1 h2 h3 h4 h5 hw
  go_enter Tryd.func8, Tryd.ntmps8
  go_wp2_with fail
  refine (certShown _ HW.out).mono ?_
  rintro e w1 ⟨rfl, g1⟩
  have G1 := Lib.hid g1
  clear g1
  go_wp2_with fail
  refine (H1.out _).mono ?_
  rintro e w2 ⟨rfl, rfl⟩
  go_wp2_with fail
  refine (H3.out _).mono ?_
  rintro e w3 ⟨rfl, rfl⟩
  go_wp2_with fail
  refine (H2.out _).mono ?_
  rintro e w4 ⟨rfl, rfl⟩
  go_wp2_with fail
  refine (H4.out _).mono ?_
  rintro e w5 ⟨rfl, rfl⟩
  go_wp2_with fail
  refine (H1.out _).mono ?_
  rintro e w6 ⟨rfl, rfl⟩
  go_wp2_with fail
  refine (H4.out _).mono ?_
  rintro e w7 ⟨rfl, rfl⟩
  go_wp2_with fail
  refine (H2.out _).mono ?_
  rintro e w8 ⟨rfl, rfl⟩
  go_wp2_with fail
  refine (H3.out _).mono ?_
  rintro e w9 ⟨rfl, rfl⟩
  cases z with
  | true =>
    go_wp2
    go_ret
    exact ⟨rfl, G1.out⟩
  | false =>
    go_wp2
    go_ret
    exact ⟨rfl, G1.out⟩

theorem certOwn_walk {H : Type} (enc : TypeId × Value → H) (W : World) (base : Nat) (v0 : Value) (v1 : Value) (d0 : DataW H) (d1 : DataW H) (p0 : List MemPlace) (p1 : List MemPlace)
    (h0 : DataW.Trod enc Tryd.prog W 0 (fun _ => true) true 9 v0 d0 p0) (o0 : Value.okWide Tryd.prog W .any base 9 v0)
    (h1 : DataW.Trod enc Tryd.prog W 0 (fun _ => true) true 9 v1 d1 p1) (o1 : Value.okWide Tryd.prog W .any base 9 v1)
    (hsz : (DataW.weightsEach Tryd.prog [9, 9] [d0, d1]).all (· ≤ reachBytes) = true) (hg : GW W) :
    Calls Tryd.prog 8 #[v0, v1] W fun e W' => e = .returned (.bool true) ∧ Below W.heap.size W W' := by
  obtain ⟨a, rfl, rfl, rfl⟩ := open_tx Tryd.underlying9 o0 h0
  obtain ⟨b, rfl, rfl, rfl⟩ := open_tx Tryd.underlying9 o1 h1
  exact certOwn_core a b W (sized_string hsz (j := 0) rfl rfl) (sized_string hsz (j := 1) rfl rfl) hg
end Go.Proofs.YtflmfbcjmjlkbaaDoor
