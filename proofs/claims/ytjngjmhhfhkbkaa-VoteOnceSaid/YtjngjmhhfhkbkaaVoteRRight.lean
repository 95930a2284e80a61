/- The document's Right of votes. -/
import Derived.Test.YtjngjmhhfhkbkaaVoteAhead
import Derived.Test.YtjngjmhhfhkbkaaVoteRight
import Derived.Test.YtjngjmhhfhkbkaaKeep
namespace Go.Proofs.Ytjngjmhhfhkbkaa
open Go.RowKit

set_option maxHeartbeats 4000000 in
set_option maxRecDepth 100000 in
theorem rvright (v : Value) (l : List Vt.Bl) (w : World) (hs : FlatAt w v 3 (ballots l)) (hl : l.length ≤ 140737488351232) :
    Calls Try.prog 18 #[v] w fun e w' => e = .returned (.bool (Vt.right l)) ∧ Below w.heap.size w w' := by
  rcases flat_ballots hs (Below.refl _ _) with ⟨rfl, a, cap, rfl⟩ | ⟨h0, b, off, cap, rfl, hc⟩
  · go_enter Try.func18, Try.ntmps18
    go_wp2_with fail
    refine wp_loop_rounds 1 ?_
    rw [rounds_succ]
    go_wp2
    go_ret
    exact ⟨rfl, Below.refl _ _⟩
  · have HC := Lib.hid hc
    clear hc hs
    go_enter Try.func18, Try.ntmps18
    go_wp2_with fail
    go_loopw [3] (fun i wr => ∃ k : Nat, i = .int .i64 k ∧ k ≤ l.length ∧ (∀ j (h : j < l.length), j < k → Vt.may l[j] = true) ∧ (∀ j (h : j + 1 < l.length), j + 1 < k → Vt.ahead (l[j]'(by omega)) l[j + 1] = true) ∧ Below w.heap.size w wr) (fun i _ => l.length - (intOf i).toNat)
    case atStart => exact ⟨0, rfl, by omega, fun _ _ h => absurd h (by omega), fun _ _ h => absurd h (by omega), Below.refl _ _⟩
    case round =>
      obtain ⟨k, rfl, hk, hi, ha, hbel⟩ := hrel
      have HI := Lib.hid hi
      have HA := Lib.hid ha
      have HB := Lib.hid hbel
      clear hi ha hbel
      by_cases hlt : k < l.length
      · obtain ⟨c1', c2', c3'⟩ := HC.out k hlt
        have c1 := below_cell HB.out c1'
        have c2 := below_cell HB.out c2'
        have c3 := below_cell HB.out c3'
        have HIN := Lib.hid fun (hr : Vt.may l[k] = true) => (show ∀ j (h : j < l.length), j < k + 1 → Vt.may l[j] = true from fun j h hj => by
          by_cases e : j = k
          · subst e; exact hr
          · exact HI.out j h (by omega))
        have HOUT := Lib.hid (Vt.right_false_in l k hlt)
        have hi0 : (0 : Int) ≤ (k : Int) := by omega
        have hi1 : (k : Int) < (l.length : Int) := by omega
        clear c1' c2' c3'
        obtain ⟨y, hy⟩ : ∃ y, l[k] = y := ⟨_, rfl⟩
        rw [hy] at c1 c2 c3 HIN HOUT
        have HY := Lib.hid hy
        clear hy
        obtain ⟨x, r, t⟩ := y
        simp only [iv] at c1 c2 c3
        have hmay := fun W => rvmay x r (tx t) W
        rw [show (decide (1 ≤ x) && decide (x ≤ 64) && decide (1 ≤ r)) = Vt.may (x, r, t) from rfl] at hmay
        cases hm : Vt.may (x, r, t) with
        | false =>
          have HF := Lib.hid (HOUT.out hm)
          rw [hm] at hmay
          clear hm HIN HOUT
          go_wp2_with fail
          refine (hmay _).mono ?_
          rintro e w1 ⟨rfl, hb⟩
          have HB1 := Lib.hid (grow_trans HB.out hb)
          clear hb
          go_wp2
          go_ret
          exact ⟨by rw [HF.out]; rfl, HB1.out⟩
        | true =>
          have HN := Lib.hid (HIN.out hm)
          rw [hm] at hmay
          clear hm HIN HOUT
          cases k with
          | zero =>
            simp only [Nat.zero_mul, Nat.add_zero] at c1 c2 c3
            go_wp2_with fail
            refine (hmay _).mono ?_
            rintro e w1 ⟨rfl, hb⟩
            have HB1 := Lib.hid (grow_trans HB.out hb)
            clear hb
            go_wp2_with fail
            go_quiet (fail)
            go_wp2
            go_roundw
            case rel => exact ⟨0 + 1, by go_num, hlt, HN.out, fun _ _ h => absurd h (by omega), below_drewN HB1.out _⟩
            case measure => simp [intOf]; omega
          | succ j =>
            obtain ⟨p1', p2', p3'⟩ := HC.out j (by omega)
            have p1 := below_cell HB.out p1'
            have p2 := below_cell HB.out p2'
            have p3 := below_cell HB.out p3'
            clear p1' p2' p3'
            have HAT := Lib.hid (Vt.right_false_at l j hlt)
            have HST := Lib.hid fun (hr : Vt.ahead (l[j]'(by omega)) l[j + 1] = true) => (show ∀ i (h : i + 1 < l.length), i + 1 < j + 1 + 1 → Vt.ahead (l[i]'(by omega)) l[i + 1] = true from fun i h hi => by
              by_cases e : i = j
              · subst e; exact hr
              · exact HA.out i h (by omega))
            obtain ⟨y', hy'⟩ : ∃ x, l[j]'(by omega) = x := ⟨_, rfl⟩
            simp only [HY.out] at HAT HST
            simp only [hy'] at p1 p2 p3 HAT HST
            obtain ⟨x', r', t'⟩ := y'
            simp only [iv] at p1 p2 p3
            have hah := fun W => rvahead (x', r', t') (x, r, t) W
            simp only [] at hah
            have hkp := Lib.hid (show ∀ A1 A2 : World, (fun w' : World => w'.cell? ⟨b, off + (j + 1) * 3, none⟩ = some (.int .i64 x) ∧ w'.cell? ⟨b, off + (j + 1) * 3 + 1, none⟩ = some (.int .i64 r) ∧ w'.cell? ⟨b, off + (j + 1) * 3 + 2, none⟩ = some (tx t) ∧ w'.cell? ⟨b, off + j * 3, none⟩ = some (.int .i64 x') ∧ w'.cell? ⟨b, off + j * 3 + 1, none⟩ = some (.int .i64 r') ∧ w'.cell? ⟨b, off + j * 3 + 2, none⟩ = some (tx t') ∧ Below w.heap.size w w') A1 → Below A1.heap.size A1 A2 → (fun w' : World => w'.cell? ⟨b, off + (j + 1) * 3, none⟩ = some (.int .i64 x) ∧ w'.cell? ⟨b, off + (j + 1) * 3 + 1, none⟩ = some (.int .i64 r) ∧ w'.cell? ⟨b, off + (j + 1) * 3 + 2, none⟩ = some (tx t) ∧ w'.cell? ⟨b, off + j * 3, none⟩ = some (.int .i64 x') ∧ w'.cell? ⟨b, off + j * 3 + 1, none⟩ = some (.int .i64 r') ∧ w'.cell? ⟨b, off + j * 3 + 2, none⟩ = some (tx t') ∧ Below w.heap.size w w') A2 from fun A1 A2 ⟨k1, k2, k3, k4, k5, k6, kb⟩ h => ⟨below_cell h k1, below_cell h k2, below_cell h k3, below_cell h k4, below_cell h k5, below_cell h k6, grow_trans kb h⟩)
            have hS0 : (fun w' : World => w'.cell? ⟨b, off + (j + 1) * 3, none⟩ = some (.int .i64 x) ∧ w'.cell? ⟨b, off + (j + 1) * 3 + 1, none⟩ = some (.int .i64 r) ∧ w'.cell? ⟨b, off + (j + 1) * 3 + 2, none⟩ = some (tx t) ∧ w'.cell? ⟨b, off + j * 3, none⟩ = some (.int .i64 x') ∧ w'.cell? ⟨b, off + j * 3 + 1, none⟩ = some (.int .i64 r') ∧ w'.cell? ⟨b, off + j * 3 + 2, none⟩ = some (tx t') ∧ Below w.heap.size w w') wr := ⟨c1, c2, c3, p1, p2, p3, HB.out⟩
            have HS0 := Lib.hid hS0
            have hpos : decide ((0 : Int) < (j : Int) + 1) = true := by rw [decide_eq_true_iff]; omega
            have hj2 : (j : Int) + 1 < (l.length : Int) := by omega
            have hj1 : (0 : Int) ≤ (j : Int) + 1 := by omega
            have hj3 : (0 : Int) ≤ (j : Int) := by omega
            have hj4 : (j : Int) < (l.length : Int) := by omega
            have hj5 : ((j : Int) + 1).toNat = j + 1 := by omega
            have hj6 : (j : Int).toNat = j := by omega
            have hj7 : IntKind.i64.wrap (j : Int) = (j : Int) := IntWalk.i64_in _ ⟨by omega, by omega⟩
            have hj8 : IntKind.i64.wrap ((j : Int) + 1 - 1) = (j : Int) := by rw [Int.add_sub_cancel]; exact hj7
            clear hS0 hi0 hi1 hy' p1 p2 p3
            go_wp2_with fail
            refine (hmay _).mono ?_
            rintro e w1 ⟨rfl, hb⟩
            have hS := hkp.out _ _ HS0.out hb
            clear hb c1 c2 c3
            cases hq : Vt.ahead (x', r', t') (x, r, t) with
            | false =>
              have HF := Lib.hid (HAT.out hq)
              rw [hq] at hah
              clear hq
              go_wp2_with fail
              go_region_held3 (fun w' : World => w'.cell? ⟨b, off + (j + 1) * 3, none⟩ = some (.int .i64 x) ∧ w'.cell? ⟨b, off + (j + 1) * 3 + 1, none⟩ = some (.int .i64 r) ∧ w'.cell? ⟨b, off + (j + 1) * 3 + 2, none⟩ = some (tx t) ∧ w'.cell? ⟨b, off + j * 3, none⟩ = some (.int .i64 x') ∧ w'.cell? ⟨b, off + j * 3 + 1, none⟩ = some (.int .i64 r') ∧ w'.cell? ⟨b, off + j * 3 + 2, none⟩ = some (tx t') ∧ Below w.heap.size w w')
                (first | assumption | exact hkp.out _ _ hS (Below.drew (Below.refl _ _)) | exact hkp.out _ _ (by assumption) ((Below.refl _ _).alloc (Nat.le_refl _) _))
                (first
                  | (go_at_call 24; refine (keepB (fun w' : World => w'.cell? ⟨b, off + (j + 1) * 3, none⟩ = some (.int .i64 x) ∧ w'.cell? ⟨b, off + (j + 1) * 3 + 1, none⟩ = some (.int .i64 r) ∧ w'.cell? ⟨b, off + (j + 1) * 3 + 2, none⟩ = some (tx t) ∧ w'.cell? ⟨b, off + j * 3, none⟩ = some (.int .i64 x') ∧ w'.cell? ⟨b, off + j * 3 + 1, none⟩ = some (.int .i64 r') ∧ w'.cell? ⟨b, off + j * 3 + 2, none⟩ = some (tx t') ∧ Below w.heap.size w w') hkp.out (hah _) (by assumption)).mono ?_; rintro e w9 ⟨rfl, kS⟩))
              all_goals go_wp2
              all_goals go_ret
              all_goals exact ⟨by rw [HF.out]; rfl, (show (fun w' : World => w'.cell? ⟨b, off + (j + 1) * 3, none⟩ = some (.int .i64 x) ∧ w'.cell? ⟨b, off + (j + 1) * 3 + 1, none⟩ = some (.int .i64 r) ∧ w'.cell? ⟨b, off + (j + 1) * 3 + 2, none⟩ = some (tx t) ∧ w'.cell? ⟨b, off + j * 3, none⟩ = some (.int .i64 x') ∧ w'.cell? ⟨b, off + j * 3 + 1, none⟩ = some (.int .i64 r') ∧ w'.cell? ⟨b, off + j * 3 + 2, none⟩ = some (tx t') ∧ Below w.heap.size w w') _ by assumption).2.2.2.2.2.2⟩
            | true =>
              have HN2 := Lib.hid (HST.out hq)
              rw [hq] at hah
              clear hq
              go_wp2_with fail
              go_region_held3 (fun w' : World => w'.cell? ⟨b, off + (j + 1) * 3, none⟩ = some (.int .i64 x) ∧ w'.cell? ⟨b, off + (j + 1) * 3 + 1, none⟩ = some (.int .i64 r) ∧ w'.cell? ⟨b, off + (j + 1) * 3 + 2, none⟩ = some (tx t) ∧ w'.cell? ⟨b, off + j * 3, none⟩ = some (.int .i64 x') ∧ w'.cell? ⟨b, off + j * 3 + 1, none⟩ = some (.int .i64 r') ∧ w'.cell? ⟨b, off + j * 3 + 2, none⟩ = some (tx t') ∧ Below w.heap.size w w')
                (first | assumption | exact hkp.out _ _ hS (Below.drew (Below.refl _ _)) | exact hkp.out _ _ (by assumption) ((Below.refl _ _).alloc (Nat.le_refl _) _))
                (first
                  | (go_at_call 24; refine (keepB (fun w' : World => w'.cell? ⟨b, off + (j + 1) * 3, none⟩ = some (.int .i64 x) ∧ w'.cell? ⟨b, off + (j + 1) * 3 + 1, none⟩ = some (.int .i64 r) ∧ w'.cell? ⟨b, off + (j + 1) * 3 + 2, none⟩ = some (tx t) ∧ w'.cell? ⟨b, off + j * 3, none⟩ = some (.int .i64 x') ∧ w'.cell? ⟨b, off + j * 3 + 1, none⟩ = some (.int .i64 r') ∧ w'.cell? ⟨b, off + j * 3 + 2, none⟩ = some (tx t') ∧ Below w.heap.size w w') hkp.out (hah _) (by assumption)).mono ?_; rintro e w9 ⟨rfl, kS⟩))
              all_goals go_wp2
              all_goals go_roundw
              all_goals first
                | exact ⟨j + 1 + 1, by go_num, hlt, HN.out, HN2.out, (show (fun w' : World => w'.cell? ⟨b, off + (j + 1) * 3, none⟩ = some (.int .i64 x) ∧ w'.cell? ⟨b, off + (j + 1) * 3 + 1, none⟩ = some (.int .i64 r) ∧ w'.cell? ⟨b, off + (j + 1) * 3 + 2, none⟩ = some (tx t) ∧ w'.cell? ⟨b, off + j * 3, none⟩ = some (.int .i64 x') ∧ w'.cell? ⟨b, off + j * 3 + 1, none⟩ = some (.int .i64 r') ∧ w'.cell? ⟨b, off + j * 3 + 2, none⟩ = some (tx t') ∧ Below w.heap.size w w') _ by assumption).2.2.2.2.2.2⟩
                | (simp [intOf]; omega)
      · obtain rfl : k = l.length := by omega
        have hf : Vt.right l = true := Vt.right_true l (fun j h => HI.out j h h) (fun j h => HA.out j h h)
        have HF := Lib.hid hf
        clear hf
        go_wp2
        go_ret
        exact ⟨by rw [HF.out]; rfl, HB.out⟩
end Go.Proofs.Ytjngjmhhfhkbkaa
