/- Package paper as it landed, and the document's: a record's frame. -/
import Derived.Test.YtkkiedmcpibnaaaDoorPapMath
import Derived.Test.YtkkiedmcpibnaaaDoorDigTakeText
import Derived.Test.YtkkiedmcpibnaaaDoorDigRText
import Derived.Test.YtkkiedmcpibnaaaDoorKeep
import Derived.Test.YtkkiedmcpibnaaaDoorShaRSum
import Derived.Deep.RegionHeld3
namespace Go.Proofs.YtkkiedmcpibnaaaDoor
open Go.RowKit
set_option maxRecDepth 100000
attribute [local go_sem] ByteArray.mk_append_mk
theorem cat_run (x y : List UInt8) (h : ¬ (x.length + y.length > 9223372036854775807)) (W : World) : (Op.stringOp .add (⟨x.toArray⟩ : ByteArray) ⟨y.toArray⟩).run Tryd.prog W = .ok (tx (x ++ y)) W := by
  rw [run_string_add_sum (P := Tryd.prog) W _ _ (by simp [ByteArray.size]; omega), ByteArray.mk_append_mk]
theorem psum_eq {s r : List UInt8} (h : Sh.sum s = r) (hs : s.length ≤ 140737488351232) (w : World) (hw : GW w) :
    Calls Tryd.prog 34 #[tx s] w fun e w' => e = .returned (tx r) ∧ Below w.heap.size w w' := by subst h; exact psum s hs w hw
theorem rsum_eq {s r : List UInt8} (h : Sh.sum s = r) (hs : s.length ≤ 140737488351232) (w : World) :
    Calls Tryd.prog 28 #[tx s] w fun e w' => e = .returned (tx r) ∧ Below w.heap.size w w' := by subst h; exact rsum s hs w
theorem text_eqP {t l : List UInt8} (h : Dg.text t = l) (hl : t.length ≤ 140737488351232) (w : World) :
    Calls Tryd.prog 26 #[tx t] w fun e w' => e = .returned (tx l) ∧ Below w.heap.size w w' := by subst h; exact text_any t hl w
theorem rtext_eqP {t l : List UInt8} (h : Dg.text t = l) (hl : t.length ≤ 140737488351232) (w : World) :
    Calls Tryd.prog 29 #[tx t] w fun e w' => e = .returned (tx l) ∧ Below w.heap.size w w' := by subst h; exact rtext_any t hl w

set_option maxHeartbeats 1000000 in
theorem pchk {r c : List UInt8} (h : Pp.chk r = c) (hr : r.length ≤ 140737488351232) (w : World) (hw : GW w) :
    Calls Tryd.prog 27 #[tx r] w fun e w' => e = .returned (tx c) ∧ Below w.heap.size w w' := by
  obtain ⟨d, hd⟩ : ∃ d, Sh.sum r = d := ⟨_, rfl⟩
  have hl : d.length = 32 := by rw [← hd]; exact Pp.sum_32 r
  have HC := Lib.hid (show d.take 4 = c by rw [← hd]; exact h)
  have HS := Lib.hid (psum_eq hd hr w hw)
  clear hd h hw
  go_enter Tryd.func27, Tryd.ntmps27
  go_wp2_with fail
  refine HS.out.mono ?_
  rintro e w1 ⟨rfl, hb⟩
  go_wp2_with fail
  simp only [ba_take, HC.out]
  go_wp2
  go_ret
  exact ⟨rfl, hb⟩

theorem frameR_ok {r : List UInt8} (h : r.length ≤ 65536) : Pp.frameR r = (Pp.frm r, 0) := by rw [Pp.frameR, if_pos h]
theorem frameR_no {r : List UInt8} (h : ¬ r.length ≤ 65536) : Pp.frameR r = ([], 4) := by rw [Pp.frameR, if_neg h]

set_option maxHeartbeats 2000000 in
theorem pframe (r : List UInt8) (hr : r.length ≤ 140737488351232) (w : World) (hw : GW w) :
    Calls Tryd.prog 10 #[tx r] w fun e w' => e = .returned (.tuple #[tx (Pp.frameR r).1, .int .i64 (Pp.frameR r).2]) ∧ Below w.heap.size w w' := by
  by_cases h : r.length ≤ 65536
  · rw [frameR_ok h]
    obtain ⟨x, hx⟩ : ∃ x, Dg.text r = x := ⟨_, rfl⟩
    obtain ⟨y, hy⟩ : ∃ y, Pp.chk r = y := ⟨_, rfl⟩
    have hxl : x.length ≤ 65545 := by have := (Pp.txt_len r).2; rw [hx] at this; omega
    have hyl : y.length = 4 := by rw [← hy]; exact Pp.chk_len r
    have e1 := fun W => cat_run x y (by omega) W
    have E := Lib.hid (show Pp.frm r = x ++ y by rw [Pp.frm, hx, hy])
    have t1 : decide ((65536 : Int) < (r.length : Int)) = false := decide_eq_false (by omega)
    have HX := Lib.hid (text_eqP hx hr)
    have HY := Lib.hid (fun W (h : GW W) => pchk hy hr W h)
    have HW := Lib.hid hw
    clear hx hy hw h hxl hyl
    go_enter Tryd.func10, Tryd.ntmps10
    go_wp2_with fail
    refine (HX.out _).mono ?_
    rintro e w1 ⟨rfl, g1⟩
    go_wp2_with fail
    refine (HY.out _ (HW.out.below g1)).mono ?_
    rintro e w2 ⟨rfl, g2⟩
    go_wp2_with fail
    go_ret2
    exact ⟨by rw [E.out]; rfl, grow_trans g1 g2⟩
  · rw [frameR_no h]
    have t1 : decide ((65536 : Int) < (r.length : Int)) = true := decide_eq_true (by omega)
    clear h
    go_enter Tryd.func10, Tryd.ntmps10
    go_wp2
    go_ret2
    exact ⟨rfl, Below.refl _ _⟩
theorem pframe_eq {r : List UInt8} {R : List UInt8 × Nat} (h : Pp.frameR r = R) (hr : r.length ≤ 140737488351232) (w : World) (hw : GW w) :
    Calls Tryd.prog 10 #[tx r] w fun e w' => e = .returned (.tuple #[tx R.1, .int .i64 R.2]) ∧ Below w.heap.size w w' := by subst h; exact pframe r hr w hw

set_option maxHeartbeats 2000000 in
theorem rframe (r : List UInt8) (hr : r.length ≤ 140737488351232) (w : World) :
    Calls Tryd.prog 11 #[tx r] w fun e w' => e = .returned (.tuple #[tx (Pp.frameR r).1, .int .i64 (Pp.frameR r).2]) ∧ Below w.heap.size w w' := by
  by_cases h : r.length ≤ 65536
  · rw [frameR_ok h]
    obtain ⟨x, hx⟩ : ∃ x, Dg.text r = x := ⟨_, rfl⟩
    obtain ⟨d, hd⟩ : ∃ d, Sh.sum r = d := ⟨_, rfl⟩
    obtain ⟨y, hy⟩ : ∃ y, d.take 4 = y := ⟨_, rfl⟩
    have hdl : d.length = 32 := by rw [← hd]; exact Pp.sum_32 r
    have hyl : y.length = 4 := by rw [← hy, List.length_take]; omega
    have hxl : x.length ≤ 65545 := by have := (Pp.txt_len r).2; rw [hx] at this; omega
    have e1 : ∀ W, (Op.stringOp .add (⟨x.toArray⟩ : ByteArray) ((⟨d.toArray⟩ : ByteArray).extract 0 4)).run Tryd.prog W = .ok (tx (x ++ y)) W := fun W => by rw [ba_take, hy]; exact cat_run x y (by omega) W
    have E := Lib.hid (show Pp.frm r = x ++ y by rw [Pp.frm, Pp.chk, hx, hd, hy])
    have t1 : decide ((65536 : Int) < (r.length : Int)) = false := decide_eq_false (by omega)
    have HD := Lib.hid (rsum_eq hd hr)
    have HX := Lib.hid (rtext_eqP hx hr)
    have HY := Lib.hid hy
    clear hx hd hy h hxl
    go_enter Tryd.func11, Tryd.ntmps11
    go_wp2_with fail
    refine (HD.out _).mono ?_
    rintro e w1 ⟨rfl, g1⟩
    have hk := Lib.hid (show ∀ a b : World, (fun w' : World => Below w.heap.size w w') a → Below a.heap.size a b → (fun w' : World => Below w.heap.size w w') b from fun a b k h => grow_trans k h)
    have hS : (fun w' : World => Below w.heap.size w w') w1 := g1
    have q1 := Lib.hid (fun W (h : (fun w' : World => Below w.heap.size w w') W) => keepB (fun w' : World => Below w.heap.size w w') hk.out (HX.out W) h)
    go_wp2_with fail
    go_region_held3 (fun w' : World => Below w.heap.size w w')
      (first | assumption | exact hk.out _ _ hS (Below.drew (Below.refl _ _)) | exact hk.out _ _ (by assumption) ((Below.refl _ _).alloc (Nat.le_refl _) _))
      ((go_at_call 29; refine (q1.out _ (by assumption)).mono ?_; rintro e w3 ⟨rfl, kS⟩))
    all_goals
      go_wp2_with fail
      go_ret2
      exact ⟨by rw [E.out]; rfl, (show (fun w' : World => Below w.heap.size w w') _ by assumption)⟩
  · rw [frameR_no h]
    have t1 : decide ((65536 : Int) < (r.length : Int)) = true := decide_eq_true (by omega)
    clear h
    go_enter Tryd.func11, Tryd.ntmps11
    go_wp2
    go_ret2
    exact ⟨rfl, Below.refl _ _⟩
end Go.Proofs.YtkkiedmcpibnaaaDoor
