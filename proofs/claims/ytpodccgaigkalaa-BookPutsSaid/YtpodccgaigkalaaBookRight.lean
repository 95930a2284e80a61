/- The contracts of the document's answer of layer 6: Right. -/
import Derived.Test.YtpodccgaigkalaaBkRight
namespace Go.Proofs.Ytpodccgaigkalaa
open Go.RowKit

set_option maxHeartbeats 4000000 in
set_option maxRecDepth 100000 in
theorem rright (v : Value) (l : List Bk.Sl) (w : World) (hs : FlatAt w v 2 (seals l)) (hl : l.length ≤ 140737488351232) (ht : ∀ s ∈ l, s.2.length ≤ 140737488351232) :
    Calls Try.prog 17 #[v] w fun e w' => e = .returned (.bool (Bk.right l)) ∧ Below w.heap.size w w' := by
  rcases flat_seals hs (Below.refl _ _) with ⟨rfl, a, cap, rfl⟩ | ⟨h0, b, off, cap, rfl, hc⟩
  · go_enter Try.func17, Try.ntmps17
    go_wp2_with fail
    refine wp_loop_rounds 1 ?_
    rw [rounds_succ]
    go_wp2
    go_ret
    exact ⟨rfl, Below.refl _ _⟩
  · have HC := Lib.hid hc
    have HT := Lib.hid ht
    clear hc hs ht
    go_enter Try.func17, Try.ntmps17
    go_wp2_with fail
    go_loopw [3] (fun i wr => ∃ k : Nat, i = .int .i64 k ∧ k ≤ l.length ∧ (∀ j (h : j < l.length), j < k → Bk.inR l[j] = true) ∧ (∀ j (h : j + 1 < l.length), j + 1 < k → Bk.ahead (l[j]'(by omega)) l[j + 1] = true) ∧ Below w.heap.size w wr) (fun i _ => l.length - (intOf i).toNat)
    case atStart => exact ⟨0, rfl, by omega, fun _ _ h => absurd h (by omega), fun _ _ h => absurd h (by omega), Below.refl _ _⟩
    case round =>
      obtain ⟨k, rfl, hk, hi, ha, hbel⟩ := hrel
      have HI := Lib.hid hi
      have HA := Lib.hid ha
      have HB := Lib.hid hbel
      clear hi ha hbel
      by_cases hlt : k < l.length
      · obtain ⟨c1', c2'⟩ := HC.out k hlt
        have c1 := below_cell HB.out c1'
        have c2 := below_cell HB.out c2'
        have HIN := Lib.hid fun (hr : Bk.inR l[k] = true) => (show ∀ j (h : j < l.length), j < k + 1 → Bk.inR l[j] = true from fun j h hj => by
          by_cases e : j = k
          · subst e; exact hr
          · exact HI.out j h (by omega))
        have HOUT := Lib.hid (Bk.right_false_in l k hlt)
        have hlu := HT.out l[k] (List.getElem_mem hlt)
        have hi0 : (0 : Int) ≤ (k : Int) := by omega
        have hi1 : (k : Int) < (l.length : Int) := by omega
        clear c1' c2'
        by_cases hr : Bk.inR l[k] = true
        · have hr' := hr
          simp only [Bk.inR, decide_eq_true_iff] at hr'
          obtain ⟨r1, r2⟩ := hr'
          have HN := Lib.hid (HIN.out hr)
          cases k with
          | zero =>
            simp only [Nat.zero_mul, Nat.add_zero] at c1 c2
            obtain ⟨y, hy⟩ : ∃ y, l[0] = y := ⟨_, rfl⟩
            simp only [hy] at c1 c2 r1 r2
            obtain ⟨z, u⟩ := y
            simp only [iv] at c1 c2 r1 r2
            have t1 : decide (z < 1) = false := by simp; omega
            have t2 : decide (64 < z) = false := by simp; omega
            clear hr hy r1 r2 hlu hi0 HIN HOUT
            go_wp2
            go_quiet (fail)
            go_wp2
            go_roundw
            case rel => exact ⟨0 + 1, by go_num, hlt, HN.out, fun _ _ h => absurd h (by omega), below_drewN HB.out _⟩
            case measure => simp [intOf]; omega
          | succ j =>
            obtain ⟨p1', p2'⟩ := HC.out j (by omega)
            have p1 := below_cell HB.out p1'
            have p2 := below_cell HB.out p2'
            have hlx := HT.out (l[j]'(by omega)) (List.getElem_mem (by omega))
            clear p1' p2'
            have HAT := Lib.hid (Bk.right_false_at l j hlt)
            have HST := Lib.hid fun (hr : Bk.ahead (l[j]'(by omega)) l[j + 1] = true) => (show ∀ i (h : i + 1 < l.length), i + 1 < j + 1 + 1 → Bk.ahead (l[i]'(by omega)) l[i + 1] = true from fun i h hi => by
              by_cases e : i = j
              · subst e; exact hr
              · exact HA.out i h (by omega))
            obtain ⟨y, hy⟩ : ∃ y, l[j + 1] = y := ⟨_, rfl⟩
            obtain ⟨x, hx⟩ : ∃ x, l[j]'(by omega) = x := ⟨_, rfl⟩
            simp only [hy] at c1 c2 r1 r2 HAT HST hlu
            simp only [hx] at p1 p2 HAT HST hlx
            have hah := fun W => rahead_any x y hlx hlu W
            obtain ⟨z, u⟩ := y
            obtain ⟨z', u'⟩ := x
            simp only [iv] at c1 c2 r1 r2 p1 p2 hah
            have t1 : decide (z < 1) = false := by simp; omega
            have t2 : decide (64 < z) = false := by simp; omega
            have hS : (fun w' : World => w'.cell? ⟨b, off + (j + 1) * 2, none⟩ = some (.int .i64 z) ∧ w'.cell? ⟨b, off + (j + 1) * 2 + 1, none⟩ = some (tx u) ∧ w'.cell? ⟨b, off + j * 2, none⟩ = some (.int .i64 z') ∧ w'.cell? ⟨b, off + j * 2 + 1, none⟩ = some (tx u') ∧ Below w.heap.size w w') wr := ⟨c1, c2, p1, p2, HB.out⟩
            have hpos : decide ((0 : Int) < (j : Int) + 1) = true := by rw [decide_eq_true_iff]; omega
            have hj2 : (j : Int) + 1 < (l.length : Int) := by omega
            have hj1 : (0 : Int) ≤ (j : Int) + 1 := by omega
            have hj3 : (0 : Int) ≤ (j : Int) := by omega
            have hj4 : (j : Int) < (l.length : Int) := by omega
            have hj5 : ((j : Int) + 1).toNat = j + 1 := by omega
            have hj6 : (j : Int).toNat = j := by omega
            have hj7 : IntKind.i64.wrap (j : Int) = (j : Int) := IntWalk.i64_in _ ⟨by omega, by omega⟩
            have hj8 : IntKind.i64.wrap ((j : Int) + 1 - 1) = (j : Int) := by rw [Int.add_sub_cancel]; exact hj7
            clear hr hi0 hi1 HIN HOUT hlu hlx r1 r2
            cases hq : Bk.ahead (z', u') (z, u) with
            | false =>
              have HF := Lib.hid (HAT.out hq)
              rw [hq] at hah
              clear hq
              have hk := Lib.hid (show ∀ A1 A2 : World, (fun w' : World => w'.cell? ⟨b, off + (j + 1) * 2, none⟩ = some (.int .i64 z) ∧ w'.cell? ⟨b, off + (j + 1) * 2 + 1, none⟩ = some (tx u) ∧ w'.cell? ⟨b, off + j * 2, none⟩ = some (.int .i64 z') ∧ w'.cell? ⟨b, off + j * 2 + 1, none⟩ = some (tx u') ∧ Below w.heap.size w w') A1 → Below A1.heap.size A1 A2 → (fun w' : World => w'.cell? ⟨b, off + (j + 1) * 2, none⟩ = some (.int .i64 z) ∧ w'.cell? ⟨b, off + (j + 1) * 2 + 1, none⟩ = some (tx u) ∧ w'.cell? ⟨b, off + j * 2, none⟩ = some (.int .i64 z') ∧ w'.cell? ⟨b, off + j * 2 + 1, none⟩ = some (tx u') ∧ Below w.heap.size w w') A2 from fun A1 A2 ⟨k0, k1, k2, k3, kb⟩ h => ⟨below_cell h k0, below_cell h k1, below_cell h k2, below_cell h k3, grow_trans kb h⟩)
              go_upto_region 6 with fail
              go_region_held3 (fun w' : World => w'.cell? ⟨b, off + (j + 1) * 2, none⟩ = some (.int .i64 z) ∧ w'.cell? ⟨b, off + (j + 1) * 2 + 1, none⟩ = some (tx u) ∧ w'.cell? ⟨b, off + j * 2, none⟩ = some (.int .i64 z') ∧ w'.cell? ⟨b, off + j * 2 + 1, none⟩ = some (tx u') ∧ Below w.heap.size w w')
                (first | assumption | exact hk.out _ _ hS (Below.drew (Below.refl _ _)) | exact hk.out _ _ (by assumption) ((Below.refl _ _).alloc (Nat.le_refl _) _))
                (first
                  | (go_at_call 28; refine (keepB (fun w' : World => w'.cell? ⟨b, off + (j + 1) * 2, none⟩ = some (.int .i64 z) ∧ w'.cell? ⟨b, off + (j + 1) * 2 + 1, none⟩ = some (tx u) ∧ w'.cell? ⟨b, off + j * 2, none⟩ = some (.int .i64 z') ∧ w'.cell? ⟨b, off + j * 2 + 1, none⟩ = some (tx u') ∧ Below w.heap.size w w') hk.out (hah _) (by assumption)).mono ?_; rintro e w1 ⟨rfl, kS⟩))
              all_goals go_wp2
              all_goals go_ret
              all_goals exact ⟨by rw [HF.out]; rfl, (show (fun w' : World => w'.cell? ⟨b, off + (j + 1) * 2, none⟩ = some (.int .i64 z) ∧ w'.cell? ⟨b, off + (j + 1) * 2 + 1, none⟩ = some (tx u) ∧ w'.cell? ⟨b, off + j * 2, none⟩ = some (.int .i64 z') ∧ w'.cell? ⟨b, off + j * 2 + 1, none⟩ = some (tx u') ∧ Below w.heap.size w w') _ by assumption).2.2.2.2⟩
            | true =>
              have HN2 := Lib.hid (HST.out hq)
              rw [hq] at hah
              clear hq
              have hk := Lib.hid (show ∀ A1 A2 : World, (fun w' : World => w'.cell? ⟨b, off + (j + 1) * 2, none⟩ = some (.int .i64 z) ∧ w'.cell? ⟨b, off + (j + 1) * 2 + 1, none⟩ = some (tx u) ∧ w'.cell? ⟨b, off + j * 2, none⟩ = some (.int .i64 z') ∧ w'.cell? ⟨b, off + j * 2 + 1, none⟩ = some (tx u') ∧ Below w.heap.size w w') A1 → Below A1.heap.size A1 A2 → (fun w' : World => w'.cell? ⟨b, off + (j + 1) * 2, none⟩ = some (.int .i64 z) ∧ w'.cell? ⟨b, off + (j + 1) * 2 + 1, none⟩ = some (tx u) ∧ w'.cell? ⟨b, off + j * 2, none⟩ = some (.int .i64 z') ∧ w'.cell? ⟨b, off + j * 2 + 1, none⟩ = some (tx u') ∧ Below w.heap.size w w') A2 from fun A1 A2 ⟨k0, k1, k2, k3, kb⟩ h => ⟨below_cell h k0, below_cell h k1, below_cell h k2, below_cell h k3, grow_trans kb h⟩)
              go_upto_region 6 with fail
              go_region_held3 (fun w' : World => w'.cell? ⟨b, off + (j + 1) * 2, none⟩ = some (.int .i64 z) ∧ w'.cell? ⟨b, off + (j + 1) * 2 + 1, none⟩ = some (tx u) ∧ w'.cell? ⟨b, off + j * 2, none⟩ = some (.int .i64 z') ∧ w'.cell? ⟨b, off + j * 2 + 1, none⟩ = some (tx u') ∧ Below w.heap.size w w')
                (first | assumption | exact hk.out _ _ hS (Below.drew (Below.refl _ _)) | exact hk.out _ _ (by assumption) ((Below.refl _ _).alloc (Nat.le_refl _) _))
                (first
                  | (go_at_call 28; refine (keepB (fun w' : World => w'.cell? ⟨b, off + (j + 1) * 2, none⟩ = some (.int .i64 z) ∧ w'.cell? ⟨b, off + (j + 1) * 2 + 1, none⟩ = some (tx u) ∧ w'.cell? ⟨b, off + j * 2, none⟩ = some (.int .i64 z') ∧ w'.cell? ⟨b, off + j * 2 + 1, none⟩ = some (tx u') ∧ Below w.heap.size w w') hk.out (hah _) (by assumption)).mono ?_; rintro e w1 ⟨rfl, kS⟩))
              all_goals go_wp2
              all_goals go_roundw
              all_goals first
                | exact ⟨j + 1 + 1, by go_num, hlt, HN.out, HN2.out, (show (fun w' : World => w'.cell? ⟨b, off + (j + 1) * 2, none⟩ = some (.int .i64 z) ∧ w'.cell? ⟨b, off + (j + 1) * 2 + 1, none⟩ = some (tx u) ∧ w'.cell? ⟨b, off + j * 2, none⟩ = some (.int .i64 z') ∧ w'.cell? ⟨b, off + j * 2 + 1, none⟩ = some (tx u') ∧ Below w.heap.size w w') _ by assumption).2.2.2.2⟩
                | (simp [intOf]; omega)
        · have hr0 : Bk.inR l[k] = false := by simpa using hr
          have HF := Lib.hid (HOUT.out hr0)
          obtain ⟨y, hy⟩ : ∃ y, l[k] = y := ⟨_, rfl⟩
          simp only [hy] at c1 c2 hr
          obtain ⟨z, u⟩ := y
          simp only [iv] at c1 c2
          simp only [Bk.inR, decide_eq_true_iff] at hr
          by_cases h1 : z < 1
          · have t1 : decide (z < 1) = true := by simpa using h1
            clear hr hy hr0 h1 HIN HOUT hlu
            go_wp2
            go_ret
            exact ⟨by rw [HF.out]; rfl, HB.out⟩
          · have t1 : decide (z < 1) = false := by simpa using h1
            have t2 : decide (64 < z) = true := by simp; omega
            clear hr hy hr0 h1 HIN HOUT hlu
            go_wp2
            go_ret
            exact ⟨by rw [HF.out]; rfl, HB.out⟩
      · obtain rfl : k = l.length := by omega
        have hf : Bk.right l = true := Bk.right_true l (fun j h => HI.out j h h) (fun j h => HA.out j h h)
        have HF := Lib.hid hf
        clear hf
        go_wp2
        go_ret
        exact ⟨by rw [HF.out]; rfl, HB.out⟩
end Go.Proofs.Ytpodccgaigkalaa
