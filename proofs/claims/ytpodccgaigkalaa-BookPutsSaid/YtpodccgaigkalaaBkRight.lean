/- Package book as it landed: Right. -/
import Derived.Test.YtpodccgaigkalaaBkGo
import Derived.Deep.DeepCutAuto
import Derived.Deep.RegionHeld3
import Derived.Deep.QuietTactic
import Derived.BigQuiet
namespace Bk
theorem right_false_in (l : List Sl) (k : Nat) (h : k < l.length) (hr : inR l[k] = false) : right l = false := by
  rw [Bool.eq_false_iff]
  intro hh
  have := ((right_iff l).mp hh).1 _ (List.getElem_mem h)
  rw [hr] at this; cases this
theorem right_false_at (l : List Sl) (j : Nat) (h : j + 1 < l.length) (hr : ahead (l[j]'(by omega)) l[j + 1] = false) : right l = false := by
  rw [Bool.eq_false_iff]
  intro hh
  have := (List.pairwise_iff_getElem.mp ((right_iff l).mp hh).2) j (j + 1) (by omega) h (by omega)
  rw [hr] at this; cases this
theorem right_true (l : List Sl) (h1 : ∀ k (h : k < l.length), inR l[k] = true) (h2 : ∀ j (h : j + 1 < l.length), ahead (l[j]'(by omega)) l[j + 1] = true) : right l = true := by
  induction l with
  | nil => rfl
  | cons s l ih =>
    have ih' := ih (fun k h => h1 (k + 1) (by simpa using h)) (fun j h => h2 (j + 1) (by simpa using h))
    have hs := h1 0 (by simp)
    cases l with
    | nil => simpa [right] using hs
    | cons t l =>
      have ha := h2 0 (by simp)
      rw [right, ih', Bool.and_true, Bool.and_eq_true]
      exact ⟨hs, ha⟩
end Bk
namespace Go.Proofs.Ytpodccgaigkalaa
open Go.RowKit

set_option maxHeartbeats 4000000 in
set_option maxRecDepth 100000 in
theorem pright (v : Value) (l : List Bk.Sl) (w : World) (hs : FlatAt w v 2 (seals l)) (hl : l.length ≤ 140737488351232) :
    Calls Try.prog 16 #[v] w fun e w' => e = .returned (.bool (Bk.right l)) ∧ Below w.heap.size w w' := by
  rcases flat_seals hs (Below.refl _ _) with ⟨rfl, a, cap, rfl⟩ | ⟨h0, b, off, cap, rfl, hc⟩
  · go_enter Try.func16, Try.ntmps16
    go_wp2_with fail
    refine wp_loop_rounds 1 ?_
    rw [rounds_succ]
    go_wp2
    go_ret
    exact ⟨rfl, Below.refl _ _⟩
  · have HC := Lib.hid hc
    clear hc hs
    go_enter Try.func16, Try.ntmps16
    go_wp2_with fail
    go_loopw [3, 4, 7] (fun _ _ i wr => ∃ k : Nat, i = .int .i64 k ∧ k ≤ l.length ∧ (∀ j (h : j < l.length), j < k → Bk.inR l[j] = true) ∧ (∀ j (h : j + 1 < l.length), j + 1 < k → Bk.ahead (l[j]'(by omega)) l[j + 1] = true) ∧ Below w.heap.size w wr) (fun _ _ i _ => l.length - (intOf i).toNat)
    case atStart => exact ⟨0, rfl, by omega, fun _ _ h => absurd h (by omega), fun _ _ h => absurd h (by omega), Below.refl _ _⟩
    case round =>
      obtain ⟨k, rfl, hk, hi, ha, hbel⟩ := hrel
      have HI := Lib.hid hi
      have HA := Lib.hid ha
      have HB := Lib.hid hbel
      clear hi ha hbel
      by_cases hlt : k < l.length
      · obtain ⟨c1', c2'⟩ := HC.out k hlt
        have c1 := below_cell HB.out c1'
        have c2 := below_cell HB.out c2'
        have n1 : wr.heap.size ≠ b := World.new_ne wr _ c1
        have hm := fun W => pbmay l[k].1 W
        have hinR : decide (1 ≤ l[k].1 ∧ l[k].1 ≤ 64) = Bk.inR l[k] := rfl
        rw [hinR] at hm
        have HIN := Lib.hid fun (hr : Bk.inR l[k] = true) => (show ∀ j (h : j < l.length), j < k + 1 → Bk.inR l[j] = true from fun j h hj => by
          by_cases e : j = k
          · subst e; exact hr
          · exact HI.out j h (by omega))
        have HOUT := Lib.hid (Bk.right_false_in l k hlt)
        clear c1' c2' hinR
        obtain ⟨C, hC⟩ : ∃ C, wr.heap.size = C := ⟨_, rfl⟩
        cases k with
        | zero =>
          simp only [Nat.zero_mul, Nat.add_zero] at c1 c2
          obtain ⟨y, hy⟩ : ∃ y, l[0] = y := ⟨_, rfl⟩
          simp only [hy] at c1 c2 hm HIN HOUT
          obtain ⟨z, u⟩ := y
          simp only [iv] at c1 c2 hm
          have hg : Below w.heap.size w (wr.alloc (.cells #[.int .i64 z, tx u] 24)) := HB.out.alloc HB.out.size _
          have HG := Lib.hid hg
          clear hg hC hk
          cases hr : Bk.inR (z, u) with
          | false =>
            rw [hr] at hm
            have HF := Lib.hid (HOUT.out hr)
            clear hr
            go_wp2
            go_quiet ((go_at_call 22; exact Calls.quiet_of_same (hm _)))
            go_wp2
            go_ret
            exact ⟨by rw [HF.out]; rfl, below_drewN HG.out _⟩
          | true =>
            rw [hr] at hm
            have HN := Lib.hid (HIN.out hr)
            clear hr
            go_wp2
            go_quiet ((go_at_call 22; exact Calls.quiet_of_same (hm _)))
            go_wp2
            go_roundw
            case rel => exact ⟨0 + 1, by go_num, hlt, HN.out, fun _ _ h => absurd h (by omega), below_drewN HG.out _⟩
            case measure => simp [intOf]; omega
        | succ j =>
          obtain ⟨p1', p2'⟩ := HC.out j (by omega)
          have p1 := below_cell HB.out p1'
          have p2 := below_cell HB.out p2'
          clear p1' p2'
          have HAT := Lib.hid (Bk.right_false_at l j hlt)
          have HST := Lib.hid fun (hr : Bk.ahead (l[j]'(by omega)) l[j + 1] = true) => (show ∀ i (h : i + 1 < l.length), i + 1 < j + 1 + 1 → Bk.ahead (l[i]'(by omega)) l[i + 1] = true from fun i h hi => by
            by_cases e : i = j
            · subst e; exact hr
            · exact HA.out i h (by omega))
          obtain ⟨y, hy⟩ : ∃ y, l[j + 1] = y := ⟨_, rfl⟩
          obtain ⟨x, hx⟩ : ∃ x, l[j]'(by omega) = x := ⟨_, rfl⟩
          simp only [hy] at c1 c2 hm HIN HOUT HAT HST
          simp only [hx] at p1 p2 HAT HST
          have hcmp := fun W => pcompare x y W
          have hneg := cmpS_neg x y
          obtain ⟨z, u⟩ := y
          obtain ⟨z', u'⟩ := x
          simp only [iv] at c1 c2 hm p1 p2
          generalize cmpS (z', u') (z, u) = r at *
          have hS : (fun w' : World => w'.cell? ⟨C, 0, none⟩ = some (.int .i64 z) ∧ w'.cell? ⟨C, 1, none⟩ = some (tx u) ∧ w'.cell? ⟨b, off + j * 2, none⟩ = some (.int .i64 z') ∧ w'.cell? ⟨b, off + j * 2 + 1, none⟩ = some (tx u') ∧ Below w.heap.size w w') (wr.alloc (.cells #[.int .i64 z, tx u] 24)) := by
            subst hC
            exact ⟨by simp, by simp, below_cell ((Below.refl _ wr).alloc (Nat.le_refl _) _) p1, below_cell ((Below.refl _ wr).alloc (Nat.le_refl _) _) p2, HB.out.alloc HB.out.size _⟩
          have hpos : decide ((0 : Int) < (j : Int) + 1) = true := by rw [decide_eq_true_iff]; omega
          have hj2 : (j : Int) + 1 < (l.length : Int) := by omega
          have hj3 : (0 : Int) ≤ (j : Int) := by omega
          have hj4 : (j : Int) < (l.length : Int) := by omega
          have hj6 : (j : Int).toNat = j := by omega
          have hj7 : IntKind.i64.wrap (j : Int) = (j : Int) := IntWalk.i64_in _ ⟨by omega, by omega⟩
          have hj8 : IntKind.i64.wrap ((j : Int) + 1 - 1) = (j : Int) := by rw [Int.add_sub_cancel]; exact hj7
          cases hr : Bk.inR (z, u) with
          | false =>
            rw [hr] at hm
            have HF := Lib.hid (HOUT.out hr)
            clear hr hneg
            go_wp2
            go_quiet ((go_at_call 22; exact Calls.quiet_of_same (hm _)))
            go_wp2
            go_ret
            exact ⟨by rw [HF.out]; rfl, below_drewN (HB.out.alloc HB.out.size _) _⟩
          | true =>
            rw [hr] at hm
            have HN := Lib.hid (HIN.out hr)
            clear hr
            cases hq : Bk.ahead (z', u') (z, u) with
            | false =>
              have HF := Lib.hid (HAT.out hq)
              rw [hq] at hneg
              have hn2 : decide (0 ≤ r) = true := hneg
              clear hq hneg
              go_upto_region 4 with fail
              have hk := Lib.hid (show ∀ A1 A2 : World, (fun w' : World => w'.cell? ⟨C, 0, none⟩ = some (.int .i64 z) ∧ w'.cell? ⟨C, 1, none⟩ = some (tx u) ∧ w'.cell? ⟨b, off + j * 2, none⟩ = some (.int .i64 z') ∧ w'.cell? ⟨b, off + j * 2 + 1, none⟩ = some (tx u') ∧ Below w.heap.size w w') A1 → Below A1.heap.size A1 A2 → (fun w' : World => w'.cell? ⟨C, 0, none⟩ = some (.int .i64 z) ∧ w'.cell? ⟨C, 1, none⟩ = some (tx u) ∧ w'.cell? ⟨b, off + j * 2, none⟩ = some (.int .i64 z') ∧ w'.cell? ⟨b, off + j * 2 + 1, none⟩ = some (tx u') ∧ Below w.heap.size w w') A2 from fun A1 A2 ⟨k0, k1, k2, k3, kb⟩ h => ⟨below_cell h k0, below_cell h k1, below_cell h k2, below_cell h k3, grow_trans kb h⟩)
              go_region_held3 (fun w' : World => w'.cell? ⟨C, 0, none⟩ = some (.int .i64 z) ∧ w'.cell? ⟨C, 1, none⟩ = some (tx u) ∧ w'.cell? ⟨b, off + j * 2, none⟩ = some (.int .i64 z') ∧ w'.cell? ⟨b, off + j * 2 + 1, none⟩ = some (tx u') ∧ Below w.heap.size w w')
                  (first | assumption | exact hk.out _ _ hS (Below.drew (Below.refl _ _)) | exact hk.out _ _ (by assumption) ((Below.refl _ _).alloc (Nat.le_refl _) _))
                  (first
                    | (go_at_call 22; refine (keepB (fun w' : World => w'.cell? ⟨C, 0, none⟩ = some (.int .i64 z) ∧ w'.cell? ⟨C, 1, none⟩ = some (tx u) ∧ w'.cell? ⟨b, off + j * 2, none⟩ = some (.int .i64 z') ∧ w'.cell? ⟨b, off + j * 2 + 1, none⟩ = some (tx u') ∧ Below w.heap.size w w') hk.out (same_below (hm _)) (by assumption)).mono ?_; rintro e w1 ⟨rfl, kS⟩)
                    | (go_at_call 26; refine (keepB (fun w' : World => w'.cell? ⟨C, 0, none⟩ = some (.int .i64 z) ∧ w'.cell? ⟨C, 1, none⟩ = some (tx u) ∧ w'.cell? ⟨b, off + j * 2, none⟩ = some (.int .i64 z') ∧ w'.cell? ⟨b, off + j * 2 + 1, none⟩ = some (tx u') ∧ Below w.heap.size w w') hk.out (hcmp _) (by assumption)).mono ?_; rintro e w1 ⟨rfl, kS⟩))
              all_goals go_wp2
              all_goals go_ret
              all_goals exact ⟨by rw [HF.out]; rfl, (show (fun w' : World => w'.cell? ⟨C, 0, none⟩ = some (.int .i64 z) ∧ w'.cell? ⟨C, 1, none⟩ = some (tx u) ∧ w'.cell? ⟨b, off + j * 2, none⟩ = some (.int .i64 z') ∧ w'.cell? ⟨b, off + j * 2 + 1, none⟩ = some (tx u') ∧ Below w.heap.size w w') _ by assumption).2.2.2.2⟩
            | true =>
              have HN2 := Lib.hid (HST.out hq)
              rw [hq] at hneg
              have hn2 : decide (0 ≤ r) = false := hneg
              clear hq hneg
              go_upto_region 4 with fail
              have hk := Lib.hid (show ∀ A1 A2 : World, (fun w' : World => w'.cell? ⟨C, 0, none⟩ = some (.int .i64 z) ∧ w'.cell? ⟨C, 1, none⟩ = some (tx u) ∧ w'.cell? ⟨b, off + j * 2, none⟩ = some (.int .i64 z') ∧ w'.cell? ⟨b, off + j * 2 + 1, none⟩ = some (tx u') ∧ Below w.heap.size w w') A1 → Below A1.heap.size A1 A2 → (fun w' : World => w'.cell? ⟨C, 0, none⟩ = some (.int .i64 z) ∧ w'.cell? ⟨C, 1, none⟩ = some (tx u) ∧ w'.cell? ⟨b, off + j * 2, none⟩ = some (.int .i64 z') ∧ w'.cell? ⟨b, off + j * 2 + 1, none⟩ = some (tx u') ∧ Below w.heap.size w w') A2 from fun A1 A2 ⟨k0, k1, k2, k3, kb⟩ h => ⟨below_cell h k0, below_cell h k1, below_cell h k2, below_cell h k3, grow_trans kb h⟩)
              go_region_held3 (fun w' : World => w'.cell? ⟨C, 0, none⟩ = some (.int .i64 z) ∧ w'.cell? ⟨C, 1, none⟩ = some (tx u) ∧ w'.cell? ⟨b, off + j * 2, none⟩ = some (.int .i64 z') ∧ w'.cell? ⟨b, off + j * 2 + 1, none⟩ = some (tx u') ∧ Below w.heap.size w w')
                  (first | assumption | exact hk.out _ _ hS (Below.drew (Below.refl _ _)) | exact hk.out _ _ (by assumption) ((Below.refl _ _).alloc (Nat.le_refl _) _))
                  (first
                    | (go_at_call 22; refine (keepB (fun w' : World => w'.cell? ⟨C, 0, none⟩ = some (.int .i64 z) ∧ w'.cell? ⟨C, 1, none⟩ = some (tx u) ∧ w'.cell? ⟨b, off + j * 2, none⟩ = some (.int .i64 z') ∧ w'.cell? ⟨b, off + j * 2 + 1, none⟩ = some (tx u') ∧ Below w.heap.size w w') hk.out (same_below (hm _)) (by assumption)).mono ?_; rintro e w1 ⟨rfl, kS⟩)
                    | (go_at_call 26; refine (keepB (fun w' : World => w'.cell? ⟨C, 0, none⟩ = some (.int .i64 z) ∧ w'.cell? ⟨C, 1, none⟩ = some (tx u) ∧ w'.cell? ⟨b, off + j * 2, none⟩ = some (.int .i64 z') ∧ w'.cell? ⟨b, off + j * 2 + 1, none⟩ = some (tx u') ∧ Below w.heap.size w w') hk.out (hcmp _) (by assumption)).mono ?_; rintro e w1 ⟨rfl, kS⟩))
              all_goals go_wp2
              all_goals go_roundw
              all_goals first
                | exact ⟨j + 1 + 1, by go_num, hlt, HN.out, HN2.out, (show (fun w' : World => w'.cell? ⟨C, 0, none⟩ = some (.int .i64 z) ∧ w'.cell? ⟨C, 1, none⟩ = some (tx u) ∧ w'.cell? ⟨b, off + j * 2, none⟩ = some (.int .i64 z') ∧ w'.cell? ⟨b, off + j * 2 + 1, none⟩ = some (tx u') ∧ Below w.heap.size w w') _ by assumption).2.2.2.2⟩
                | (simp [intOf]; omega)
      · obtain rfl : k = l.length := by omega
        have hf : Bk.right l = true := Bk.right_true l (fun j h => HI.out j h h) (fun j h => HA.out j h h)
        have HF := Lib.hid hf
        clear hf
        go_wp2
        go_ret
        exact ⟨by rw [HF.out]; rfl, HB.out⟩
end Go.Proofs.Ytpodccgaigkalaa
