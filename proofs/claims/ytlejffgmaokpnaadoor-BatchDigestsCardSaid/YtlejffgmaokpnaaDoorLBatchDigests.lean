/- BatchDigests: the walk. -/
import Derived.Test.YtlejffgmaokpnaaDoorBatDig
namespace Go.Proofs.YtlejffgmaokpnaaDoor
open Go.RowKit Go.ChangeShapes Go.WideShapes Go.ChangeAt
attribute [local go_sem] ByteArray.mk_append_mk

set_option maxHeartbeats 1000000 in
theorem batchDigests_core (b : Bt.Bat) (v : Value) (W : World) (hv : TxAt W v b.2.2) (hl : b.2.2.length ≤ 140737488351232) (hw : GW W) :
    Calls Tryd.prog 4 #[batV b.1 b.2.1 v] W fun e W' => e = .returned (.bool true) ∧ Below W.heap.size W W' := by
  obtain ⟨o, q, l⟩ := b
  simp only [] at hv hl ⊢
  have hg : Below W.heap.size W (W.alloc (.cells #[.int .i64 o, .int .i64 q, v] 24)) := (Below.refl _ _).alloc (Nat.le_refl _) _
  have HG := Lib.hid hg
  have HW := Lib.hid hw
  have HV := Lib.hid hv
  have HBX := Lib.hid (BBox.new W o q v)
  obtain ⟨av, cv, rfl⟩ := hv.len
  cases hm : Bt.may (o, q, l) with
  | false =>
    have HB := Lib.hid (fun w h => pbbytes_eq (b := (o, q, l)) (v := .slice av l.length cv) (Bt.bytesR_no hm) w h hl)
    have HD := Lib.hid (fun w h => pbdigest_eq (b := (o, q, l)) (v := .slice av l.length cv) (Bt.digestR_no hm) w h hl)
    clear hm hg hv hw hl
    go_enter Tryd.func4, Tryd.ntmps4
    go_wp2_with fail
    refine (batShown _).mono ?_
    rintro e w1 ⟨rfl, hb1⟩
    have bx1 := HBX.out.kept (hb1.mono (by simp))
    have hb1' := grow_trans HG.out (hb1.mono (by simp))
    obtain ⟨c0, c1, c2, _⟩ := bx1.facts
    clear hb1
    go_wp2_with fail
    refine (HB.out _ (HV.out.below hb1')).mono ?_
    rintro e w2 ⟨rfl, hb2⟩
    have bx2 := bx1.kept hb2
    have hb2' := grow_trans hb1' hb2
    obtain ⟨d0, d1, d2, _⟩ := bx2.facts
    clear hb2 hb1' bx1 c0 c1 c2
    go_wp2_with fail
    refine (HD.out _ (HV.out.below hb2') (HW.out.below hb2')).mono ?_
    rintro e w3 ⟨rfl, hb3⟩
    have hb3' := grow_trans hb2' hb3
    clear hb3 hb2' bx2 d0 d1 d2
    go_wp2
    go_ret
    exact ⟨rfl, hb3'⟩
  | true =>
    have hbl := Bt.bytes_300 hm
    have hdl := sum_len (98 :: Bt.bytes (o, q, l))
    have hb := Bt.bytesR_ok hm
    have hd := Bt.digestR_ok hm
    obtain ⟨bs, hbs⟩ : ∃ bs, Bt.bytes (o, q, l) = bs := ⟨_, rfl⟩
    rw [hbs] at hb hd hdl hbl
    obtain ⟨d, hdd⟩ : ∃ d, Sh.sum (98 :: bs) = d := ⟨_, rfl⟩
    rw [hdd] at hd hdl
    have HB := Lib.hid (fun w h => pbbytes_eq (b := (o, q, l)) (v := .slice av l.length cv) hb w h hl)
    have HD := Lib.hid (fun w h => pbdigest_eq (b := (o, q, l)) (v := .slice av l.length cv) hd w h hl)
    have HS := Lib.hid (fun W hW => psum_eq hdd (by simp; omega) W hW)
    have e1 := fun W => cat_run [98] bs (by simp; omega) W
    have t1 : ((d.length : Int) == 32) = true := by rw [hdl]; rfl
    clear hm hg hv hw hl hbl hb hd hbs hdd hdl
    go_enter Tryd.func4, Tryd.ntmps4
    go_wp2_with fail
    refine (batShown _).mono ?_
    rintro e w1 ⟨rfl, hb1⟩
    have bx1 := HBX.out.kept (hb1.mono (by simp))
    have hb1' := grow_trans HG.out (hb1.mono (by simp))
    obtain ⟨c0, c1, c2, _⟩ := bx1.facts
    clear hb1
    go_wp2_with fail
    refine (HB.out _ (HV.out.below hb1')).mono ?_
    rintro e w2 ⟨rfl, hb2⟩
    have bx2 := bx1.kept hb2
    have hb2' := grow_trans hb1' hb2
    obtain ⟨d0, d1, d2, _⟩ := bx2.facts
    clear hb2 hb1' bx1 c0 c1 c2
    go_wp2_with fail
    refine (HD.out _ (HV.out.below hb2') (HW.out.below hb2')).mono ?_
    rintro e w3 ⟨rfl, hb3⟩
    have hb3' := grow_trans hb2' hb3
    have hgw := HW.out.below hb3'
    clear hb3 hb2' bx2 d0 d1 d2
    go_wp2_with fail
    refine (HS.out _ hgw).mono ?_
    rintro e w4 ⟨rfl, hb4⟩
    have hb4' := grow_trans hb3' hb4
    clear hb4 hb3' hgw
    go_wp2
    go_ret
    exact ⟨rfl, hb4'⟩

theorem batchDigests_walk {H : Type} (enc : TypeId × Value → H) (W : World) (base : Nat) (v0 : Value) (d0 : DataW H) (p0 : List MemPlace)
    (h0 : DataW.Trod enc Tryd.prog W 0 (fun _ => true) true 24 v0 d0 p0) (o0 : Value.okWide Tryd.prog W .any base 24 v0)
    (hsz : (DataW.weightsEach Tryd.prog [24] [d0]).all (· ≤ reachBytes) = true) (hg : GW W) :
    Calls Tryd.prog 4 #[v0] W fun e W' => e = .returned (.bool true) ∧ Below W.heap.size W W' := by
  obtain ⟨a, va, rfl, ha, la, _⟩ := open_bat o0 h0 (sized_at hsz (j := 0) rfl rfl)
  exact batchDigests_core a va W ha (by omega) hg
end Go.Proofs.YtlejffgmaokpnaaDoor
