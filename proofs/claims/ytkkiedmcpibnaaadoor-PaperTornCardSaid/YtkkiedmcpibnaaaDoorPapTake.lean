/- Package paper as it landed: the record that bytes begin with. -/
import Derived.Test.YtkkiedmcpibnaaaDoorPapFrame
namespace Pp
open Dg
theorem take1_eq {s x y : List UInt8} {e : Nat} (h : takeText s 65536 = (x, y, e)) : take1 s = if e = 0 ∧ 4 ≤ y.length ∧ y.take 4 = chk x then some (x, y.drop 4) else none := by
  rw [take1, h]
end Pp
namespace Go.Proofs.YtkkiedmcpibnaaaDoor
open Go.RowKit
set_option maxRecDepth 100000
attribute [local go_sem] ByteArray.mk_append_mk
def takeV : Option (List UInt8 × List UInt8) → Value
  | none => .tuple #[tx [], tx [], .bool false]
  | some (r, t) => .tuple #[tx r, tx t, .bool true]

set_option maxHeartbeats 4000000 in
theorem ptake (s : List UInt8) (hs : s.length ≤ 140737488351232) (w : World) (hw : GW w) :
    Calls Tryd.prog 40 #[tx s] w fun e w' => e = .returned (takeV (Pp.take1 s)) ∧ Below w.heap.size w w' := by
  obtain ⟨x, y, e, hT⟩ : ∃ x y e, Dg.takeText s 65536 = (x, y, e) := ⟨_, _, _, rfl⟩
  have hE := Pp.take1_eq hT
  have hrl := Dg.takeText_rest s 65536
  rw [hT] at hrl
  simp only [] at hrl
  have HT := Lib.hid (takeText_eq hT hs (by omega) (by omega))
  by_cases he : e = 0
  · subst he
    have hxs : x.length ≤ 65536 := by have := (Dg.takeText_back s x y 65536 hT).2.1; omega
    by_cases hl : y.length < 4
    · rw [if_neg (by omega)] at hE
      have E := Lib.hid hE
      have t1 : decide ((y.length : Int) < 4) = true := decide_eq_true (by omega)
      clear hE hT hl hxs
      go_enter Tryd.func40, Tryd.ntmps40
      go_wp2_with fail
      refine (HT.out _).mono ?_
      rintro e w1 ⟨rfl, k, rfl⟩
      have G1 := Lib.hid (grow_draws w k)
      generalize w.drewN k = w1 at *
      go_wp2_with fail
      go_quiet (fail)
      go_wp2
      go_ret3
      exact ⟨by rw [E.out]; rfl, below_drewN G1.out _⟩
    · obtain ⟨c, hc⟩ : ∃ c, Pp.chk x = c := ⟨_, rfl⟩
      obtain ⟨z, hz⟩ : ∃ z, y.take 4 = z := ⟨_, rfl⟩
      obtain ⟨q, hq⟩ : ∃ q, y.drop 4 = q := ⟨_, rfl⟩
      have HC := Lib.hid (fun W (h : GW W) => pchk hc (by omega) W h)
      have HW := Lib.hid hw
      have t1 : decide ((y.length : Int) < 4) = false := decide_eq_false (by omega)
      have t2 : (4 : Int) ≤ (y.length : Int) := by omega
      have HZ := Lib.hid hz
      have HQ := Lib.hid hq
      by_cases hzc : z = c
      · rw [if_pos ⟨rfl, by omega, by rw [hz, hc, hzc]⟩, hq] at hE
        have E := Lib.hid hE
        have t3 : (((⟨y.toArray⟩ : ByteArray).extract 0 4).toList == c) = true := by rw [Lib.extract_toList, beq_iff_eq, ← hzc, ← hz]; simp
        have hk := Lib.hid (show ∀ a b : World, (fun w' : World => Below w.heap.size w w') a → Below a.heap.size a b → (fun w' : World => Below w.heap.size w w') b from fun a b k h => grow_trans k h)
        have q2 := Lib.hid (fun W (h : (fun w' : World => Below w.heap.size w w') W) => keepB (fun w' : World => Below w.heap.size w w') hk.out (HC.out W (HW.out.below h)) h)
        clear hE hT hl hxs hc hz hq hzc hw
        go_enter Tryd.func40, Tryd.ntmps40
        go_wp2_with fail
        refine (HT.out _).mono ?_
        rintro e w1 ⟨rfl, k, rfl⟩
        have hS : (fun w' : World => Below w.heap.size w w') (w.drewN k) := grow_draws w k
        generalize w.drewN k = w1 at *
        go_wp2_with fail
        go_region_held3 (fun w' : World => Below w.heap.size w w')
          (first | assumption | exact hk.out _ _ hS (Below.drew (Below.refl _ _)) | exact hk.out _ _ (by assumption) ((Below.refl _ _).alloc (Nat.le_refl _) _))
          ((go_at_call 27; refine (q2.out _ (by assumption)).mono ?_; rintro e w3 ⟨rfl, kS⟩))
        all_goals
          go_wp2_with fail
          go_quiet (fail)
          simp only [ba_drop, HQ.out]
          go_wp2
          go_ret3
          exact ⟨by rw [E.out]; rfl, below_drewN (show (fun w' : World => Below w.heap.size w w') _ by assumption) _⟩
      · rw [if_neg (by rw [hz, hc]; exact fun h => hzc h.2.2)] at hE
        have E := Lib.hid hE
        have t3 : (((⟨y.toArray⟩ : ByteArray).extract 0 4).toList == c) = false := by rw [Lib.extract_toList, beq_eq_false_iff_ne]; exact fun h => hzc (by rw [← hz, ← h]; simp)
        have hk := Lib.hid (show ∀ a b : World, (fun w' : World => Below w.heap.size w w') a → Below a.heap.size a b → (fun w' : World => Below w.heap.size w w') b from fun a b k h => grow_trans k h)
        have q2 := Lib.hid (fun W (h : (fun w' : World => Below w.heap.size w w') W) => keepB (fun w' : World => Below w.heap.size w w') hk.out (HC.out W (HW.out.below h)) h)
        clear hE hT hl hxs hc hz hq hzc hw
        go_enter Tryd.func40, Tryd.ntmps40
        go_wp2_with fail
        refine (HT.out _).mono ?_
        rintro e w1 ⟨rfl, k, rfl⟩
        have hS : (fun w' : World => Below w.heap.size w w') (w.drewN k) := grow_draws w k
        generalize w.drewN k = w1 at *
        go_wp2_with fail
        go_region_held3 (fun w' : World => Below w.heap.size w w')
          (first | assumption | exact hk.out _ _ hS (Below.drew (Below.refl _ _)) | exact hk.out _ _ (by assumption) ((Below.refl _ _).alloc (Nat.le_refl _) _))
          ((go_at_call 27; refine (q2.out _ (by assumption)).mono ?_; rintro e w3 ⟨rfl, kS⟩))
        all_goals
          go_wp2_with fail
          go_ret3
          exact ⟨by rw [E.out]; rfl, (show (fun w' : World => Below w.heap.size w w') _ by assumption)⟩
  · rw [if_neg (by omega)] at hE
    have E := Lib.hid hE
    have t1 : ((e : Int) != 0) = true := by rw [bne_iff_ne]; omega
    clear hE hT he
    go_enter Tryd.func40, Tryd.ntmps40
    go_wp2_with fail
    refine (HT.out _).mono ?_
    rintro e w1 ⟨rfl, k, rfl⟩
    have G1 := Lib.hid (grow_draws w k)
    generalize w.drewN k = w1 at *
    go_wp2_with fail
    go_quiet (fail)
    go_wp2
    go_ret3
    exact ⟨by rw [E.out]; rfl, below_drewN G1.out _⟩
end Go.Proofs.YtkkiedmcpibnaaaDoor
