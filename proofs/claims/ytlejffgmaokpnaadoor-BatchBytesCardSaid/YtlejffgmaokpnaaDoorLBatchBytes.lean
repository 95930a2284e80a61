/- BatchBytes: the walk. -/
import Derived.Test.YtlejffgmaokpnaaDoorBatRBytes
namespace Go.Proofs.YtlejffgmaokpnaaDoor
open Go.RowKit Go.ChangeShapes Go.WideShapes Go.ChangeAt
theorem rbmay_eq {b : Bt.Bat} {v : Value} {r : Bool} (h : Bt.may b = r) (w : World) (hv : TxAt w v b.2.2) :
    Calls Tryd.prog 11 #[batV b.1 b.2.1 v] w fun e w' => e = .returned (.bool r) ∧ Below w.heap.size w w' := by subst h; exact rbmay b.1 b.2.1 v b.2.2 w hv

set_option maxHeartbeats 1000000 in
theorem batchBytes_core (o q : Int) (l : List (List UInt8)) (v : Value) (W : World) (hv : TxAt W v l) (hl : l.length ≤ 140737488351232) (hw : GW W) :
    Calls Tryd.prog 3 #[batV o q v] W fun e W' => e = .returned (.bool true) ∧ Below W.heap.size W W' := by
  have hg : Below W.heap.size W (W.alloc (.cells #[.int .i64 o, .int .i64 q, v] 24)) := (Below.refl _ _).alloc (Nat.le_refl _) _
  have HG := Lib.hid hg
  have HW := Lib.hid hw
  have HV := Lib.hid hv
  have HBX := Lib.hid (BBox.new W o q v)
  obtain ⟨av, cv, rfl⟩ := hv.len
  obtain ⟨⟨bs, x⟩, hR⟩ : ∃ R, Bt.bytesR (o, q, l) = R := ⟨_, rfl⟩
  obtain ⟨⟨ds, y⟩, hD⟩ : ∃ R, Bt.digestR (o, q, l) = R := ⟨_, rfl⟩
  obtain ⟨r, hm⟩ : ∃ r, Bt.may (o, q, l) = r := ⟨_, rfl⟩
  have H2 := Lib.hid (fun w h => pbbytes_eq (b := (o, q, l)) (v := .slice av l.length cv) hR w h hl)
  have H3 := Lib.hid (fun w h => rbbytes_eq (b := (o, q, l)) (v := .slice av l.length cv) hR w h hl)
  have H4 := Lib.hid (fun w h => pbdigest_eq (b := (o, q, l)) (v := .slice av l.length cv) hD w h hl)
  have H5 := Lib.hid (fun w h => rbdigest_eq (b := (o, q, l)) (v := .slice av l.length cv) hD w h hl)
  have H6 := Lib.hid (fun w h => pbmay_eq (b := (o, q, l)) (v := .slice av l.length cv) hm w h hl)
  have H7 := Lib.hid (fun w h => rbmay_eq (b := (o, q, l)) (v := .slice av l.length cv) hm w h)
  clear hR hD hm hg hv hw hl
  go_enter Tryd.func3, Tryd.ntmps3
  go_wp2_with fail
  refine (batShown _).mono ?_
  rintro e w1 ⟨rfl, hb1⟩
  have bx1 := HBX.out.kept (hb1.mono (by simp))
  have g1 := grow_trans HG.out (hb1.mono (by simp))
  clear hb1
  obtain ⟨c0, c1, c2, _⟩ := bx1.facts
  go_wp2_with fail
  refine (H2.out _ (HV.out.below g1)).mono ?_
  rintro e w2 ⟨rfl, hb2⟩
  have bx2 := bx1.kept hb2
  have g2 := grow_trans g1 hb2
  clear hb2 g1 bx1 c0 c1 c2
  obtain ⟨c0, c1, c2, _⟩ := bx2.facts
  go_wp2_with fail
  refine (H3.out _ (HV.out.below g2)).mono ?_
  rintro e w3 ⟨rfl, hb3⟩
  have bx3 := bx2.kept hb3
  have g3 := grow_trans g2 hb3
  clear hb3 g2 bx2 c0 c1 c2
  obtain ⟨c0, c1, c2, _⟩ := bx3.facts
  go_wp2_with fail
  refine (H4.out _ (HV.out.below g3) (HW.out.below g3)).mono ?_
  rintro e w4 ⟨rfl, hb4⟩
  have bx4 := bx3.kept hb4
  have g4 := grow_trans g3 hb4
  clear hb4 g3 bx3 c0 c1 c2
  obtain ⟨c0, c1, c2, _⟩ := bx4.facts
  go_wp2_with fail
  refine (H5.out _ (HV.out.below g4)).mono ?_
  rintro e w5 ⟨rfl, hb5⟩
  have bx5 := bx4.kept hb5
  have g5 := grow_trans g4 hb5
  clear hb5 g4 bx4 c0 c1 c2
  obtain ⟨c0, c1, c2, _⟩ := bx5.facts
  have hk := Lib.hid (show ∀ a b : World, (fun w' : World => w'.cell? ⟨W.heap.size, 0, none⟩ = some (.int .i64 o) ∧ w'.cell? ⟨W.heap.size, 1, none⟩ = some (.int .i64 q) ∧ w'.cell? ⟨W.heap.size, 2, none⟩ = some (.slice av l.length cv) ∧ Below W.heap.size W w') a → Below a.heap.size a b → (fun w' : World => w'.cell? ⟨W.heap.size, 0, none⟩ = some (.int .i64 o) ∧ w'.cell? ⟨W.heap.size, 1, none⟩ = some (.int .i64 q) ∧ w'.cell? ⟨W.heap.size, 2, none⟩ = some (.slice av l.length cv) ∧ Below W.heap.size W w') b from fun a b ⟨k0, k1, k2, kb⟩ h => ⟨below_cell h k0, below_cell h k1, below_cell h k2, grow_trans kb h⟩)
  have hS : (fun w' : World => w'.cell? ⟨W.heap.size, 0, none⟩ = some (.int .i64 o) ∧ w'.cell? ⟨W.heap.size, 1, none⟩ = some (.int .i64 q) ∧ w'.cell? ⟨W.heap.size, 2, none⟩ = some (.slice av l.length cv) ∧ Below W.heap.size W w') w5 := ⟨c0, c1, c2, g5⟩
  have hf := Lib.hid (fun X (h : (fun w' : World => w'.cell? ⟨W.heap.size, 0, none⟩ = some (.int .i64 o) ∧ w'.cell? ⟨W.heap.size, 1, none⟩ = some (.int .i64 q) ∧ w'.cell? ⟨W.heap.size, 2, none⟩ = some (.slice av l.length cv) ∧ Below W.heap.size W w') X) => keepB (fun w' : World => w'.cell? ⟨W.heap.size, 0, none⟩ = some (.int .i64 o) ∧ w'.cell? ⟨W.heap.size, 1, none⟩ = some (.int .i64 q) ∧ w'.cell? ⟨W.heap.size, 2, none⟩ = some (.slice av l.length cv) ∧ Below W.heap.size W w') hk.out (H6.out X (HV.out.below h.2.2.2)) h)
  have hr := Lib.hid (fun X (h : (fun w' : World => w'.cell? ⟨W.heap.size, 0, none⟩ = some (.int .i64 o) ∧ w'.cell? ⟨W.heap.size, 1, none⟩ = some (.int .i64 q) ∧ w'.cell? ⟨W.heap.size, 2, none⟩ = some (.slice av l.length cv) ∧ Below W.heap.size W w') X) => keepB (fun w' : World => w'.cell? ⟨W.heap.size, 0, none⟩ = some (.int .i64 o) ∧ w'.cell? ⟨W.heap.size, 1, none⟩ = some (.int .i64 q) ∧ w'.cell? ⟨W.heap.size, 2, none⟩ = some (.slice av l.length cv) ∧ Below W.heap.size W w') hk.out (H7.out X (HV.out.below h.2.2.2)) h)
  clear bx5 g5 H2 H3 H4 H5 H6 H7
  go_wp2_with fail
  go_region_held3 (fun w' : World => w'.cell? ⟨W.heap.size, 0, none⟩ = some (.int .i64 o) ∧ w'.cell? ⟨W.heap.size, 1, none⟩ = some (.int .i64 q) ∧ w'.cell? ⟨W.heap.size, 2, none⟩ = some (.slice av l.length cv) ∧ Below W.heap.size W w')
    (first | assumption | exact hk.out _ _ hS (Below.drew (Below.refl _ _)) | exact hk.out _ _ (by assumption) ((Below.refl _ _).alloc (Nat.le_refl _) _))
    (first
      | (go_at_call 10; refine (hf.out _ (by assumption)).mono ?_; rintro e w1 ⟨rfl, kS⟩)
      | (go_at_call 11; refine (hr.out _ (by assumption)).mono ?_; rintro e w1 ⟨rfl, kS⟩))
  all_goals (go_wp2_with fail; go_ret; exact ⟨rfl, (show (fun w' : World => w'.cell? ⟨W.heap.size, 0, none⟩ = some (.int .i64 o) ∧ w'.cell? ⟨W.heap.size, 1, none⟩ = some (.int .i64 q) ∧ w'.cell? ⟨W.heap.size, 2, none⟩ = some (.slice av l.length cv) ∧ Below W.heap.size W w') _ by assumption).2.2.2⟩)

theorem batchBytes_walk {H : Type} (enc : TypeId × Value → H) (W : World) (base : Nat) (v0 : Value) (d0 : DataW H) (p0 : List MemPlace)
    (h0 : DataW.Trod enc Tryd.prog W 0 (fun _ => true) true 24 v0 d0 p0) (o0 : Value.okWide Tryd.prog W .any base 24 v0)
    (hsz : (DataW.weightsEach Tryd.prog [24] [d0]).all (· ≤ reachBytes) = true) (hg : GW W) :
    Calls Tryd.prog 3 #[v0] W fun e W' => e = .returned (.bool true) ∧ Below W.heap.size W W' := by
  obtain ⟨a, va, rfl, ha, la, _⟩ := open_bat o0 h0 (sized_at hsz (j := 0) rfl rfl)
  exact batchBytes_core a.1 a.2.1 a.2.2 va W ha (by omega) hg
end Go.Proofs.YtlejffgmaokpnaaDoor
