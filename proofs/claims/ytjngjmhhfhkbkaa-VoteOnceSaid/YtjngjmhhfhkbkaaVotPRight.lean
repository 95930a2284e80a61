/- Package vote as it landed: Right. (Written by gen-vright.py.) -/
import Derived.Test.YtjngjmhhfhkbkaaVotCmp
import Derived.Deep.DeepCutAuto
namespace Go.Proofs.Ytjngjmhhfhkbkaa
open Go.RowKit

set_option maxHeartbeats 4000000 in
set_option maxRecDepth 100000 in
theorem pvright (v : Value) (l : List Vt.Bl) (w : World) (hs : FlatAt w v 3 (ballots l)) (hl : l.length ≤ 140737488351232) :
    Calls Try.prog 17 #[v] w fun e w' => e = .returned (.bool (Vt.right l)) ∧ Below w.heap.size w w' := by
  rcases flat_ballots hs (Below.refl _ _) with ⟨rfl, a, cap, rfl⟩ | ⟨h0, b, off, cap, rfl, hc⟩
  · go_enter Try.func17, Try.ntmps17
    go_wp2_with fail
    refine wp_loop_rounds 1 ?_
    rw [rounds_succ]
    go_wp2
    go_ret
    exact ⟨rfl, Below.refl _ _⟩
  · have HC := Lib.hid hc
    clear hc hs
    go_enter Try.func17, Try.ntmps17
    go_wp2_with fail
    go_loopw [3, 4, 7] (fun _ _ i wr => ∃ k : Nat, i = .int .i64 k ∧ k ≤ l.length ∧ (∀ j (h : j < l.length), j < k → Vt.may l[j] = true) ∧ (∀ j (h : j + 1 < l.length), j + 1 < k → Vt.ahead (l[j]'(by omega)) l[j + 1] = true) ∧ Below w.heap.size w wr) (fun _ _ i _ => l.length - (intOf i).toNat)
    case atStart => exact ⟨0, rfl, by omega, fun _ _ h => absurd h (by omega), fun _ _ h => absurd h (by omega), Below.refl _ _⟩
    case round =>
      obtain ⟨k, rfl, hk, hi, ha, hbel⟩ := hrel
      have HI := Lib.hid hi
      have HA := Lib.hid ha
      have HB := Lib.hid hbel
      clear hi ha hbel
      by_cases hlt : k < l.length
      · obtain ⟨c1', c2', c3'⟩ := HC.out k hlt
        have c1 := below_cell HB.out c1'
        have c2 := below_cell HB.out c2'
        have c3 := below_cell HB.out c3'
        have n1 : wr.heap.size ≠ b := World.new_ne wr _ c1
        have HIN := Lib.hid fun (hr : Vt.may l[k] = true) => (show ∀ j (h : j < l.length), j < k + 1 → Vt.may l[j] = true from fun j h hj => by
          by_cases e : j = k
          · subst e; exact hr
          · exact HI.out j h (by omega))
        have HOUT := Lib.hid (Vt.right_false_in l k hlt)
        have HAT := Lib.hid fun j (e : k = j + 1) => (show Vt.ahead (l[j]'(by omega)) (l[k]) = false → Vt.right l = false by subst e; exact Vt.right_false_at l j hlt)
        have HST := Lib.hid fun j (e : k = j + 1) => (show Vt.ahead (l[j]'(by omega)) (l[k]) = true → ∀ i (h : i + 1 < l.length), i + 1 < k + 1 → Vt.ahead (l[i]'(by omega)) l[i + 1] = true from fun hr i h hi => by
          subst e
          by_cases e : i = j
          · subst e; exact hr
          · exact HA.out i h (by omega))
        clear c1' c2' c3'
        obtain ⟨C, hC⟩ : ∃ C, wr.heap.size = C := ⟨_, rfl⟩
        obtain ⟨y, hy⟩ : ∃ y, l[k] = y := ⟨_, rfl⟩
        simp only [hy] at c1 c2 c3 HIN HOUT HAT HST
        have hm := fun W => pvmay y.1 y.2.1 (tx y.2.2) W
        have hmy : (decide (1 ≤ y.1) && decide (y.1 ≤ 64) && decide (1 ≤ y.2.1)) = Vt.may y := rfl
        simp only [hmy] at hm
        clear hmy
        obtain ⟨x, r, t⟩ := y
        simp only [iv] at c1 c2 c3 hm
        have hS1 : (fun w' : World => w'.cell? ⟨C, 0, none⟩ = some (.int .i64 x) ∧ w'.cell? ⟨C, 1, none⟩ = some (.int .i64 r) ∧ w'.cell? ⟨C, 2, none⟩ = some (tx t) ∧ Below w.heap.size w w') (wr.alloc (.cells #[.int .i64 x, .int .i64 r, tx t] 24)) := by
          subst hC
          exact ⟨by simp, by simp, by simp, HB.out.alloc HB.out.size _⟩
        have hk1 := Lib.hid (show ∀ A1 A2 : World, (fun w' : World => w'.cell? ⟨C, 0, none⟩ = some (.int .i64 x) ∧ w'.cell? ⟨C, 1, none⟩ = some (.int .i64 r) ∧ w'.cell? ⟨C, 2, none⟩ = some (tx t) ∧ Below w.heap.size w w') A1 → Below A1.heap.size A1 A2 → (fun w' : World => w'.cell? ⟨C, 0, none⟩ = some (.int .i64 x) ∧ w'.cell? ⟨C, 1, none⟩ = some (.int .i64 r) ∧ w'.cell? ⟨C, 2, none⟩ = some (tx t) ∧ Below w.heap.size w w') A2 from fun A1 A2 ⟨k0, k1, k2, kb⟩ h => ⟨below_cell h k0, below_cell h k1, below_cell h k2, grow_trans kb h⟩)
        cases hr : Vt.may (x, r, t) with
        | false =>
          rw [hr] at hm
          have HF := Lib.hid (HOUT.out hr)
          clear hr
          go_upto_region 4 with fail
          refine wp_region_held_drew (S := (fun w' : World => w'.cell? ⟨C, 0, none⟩ = some (.int .i64 x) ∧ w'.cell? ⟨C, 1, none⟩ = some (.int .i64 r) ∧ w'.cell? ⟨C, 2, none⟩ = some (tx t) ∧ Below w.heap.size w w')) (by kernel_rfl) ?_ (fun hHeld => ?_)
          · exact hk1.out _ _ hS1 (Below.drew (Below.refl _ _))
          refine takeW (i := 0) (v := ?_) rfl (by kernel_rfl) (by kernel_rfl) (by kernel_rfl) (fun _ _ _ h => h) (by rfl) ?_ (by assumption) ?_
          rotate_left
          focus (intro w hSw; (try dsimp only at hSw); go_simp; try (with_reducible rfl))
          simp only [Act.put, List.setIfInBounds_toArray, List.set_cons_zero, List.set_cons_succ]
          refine readyOne (i := 1) (by kernel_rfl) rfl (fun K hK => ?_)
          go_simp
          refine (keepB (fun w' : World => w'.cell? ⟨C, 0, none⟩ = some (.int .i64 x) ∧ w'.cell? ⟨C, 1, none⟩ = some (.int .i64 r) ∧ w'.cell? ⟨C, 2, none⟩ = some (tx t) ∧ Below w.heap.size w w') hk1.out (hm _) (by assumption)).mono ?_
          rintro e w9 ⟨rfl, kS⟩
          go_wp2_with fail
          refine hK.out _ _ kS (fun hHeld => ?_)
          clear hK K
          refine takeW (i := 2) (v := ?_) rfl (by kernel_rfl) (by kernel_rfl) (by kernel_rfl) (fun _ _ _ h => h) (by rfl) ?_ (by assumption) ?_
          rotate_left
          focus (intro w hSw; (try dsimp only at hSw); go_simp; try (with_reducible rfl))
          simp only [Act.put, List.setIfInBounds_toArray, List.set_cons_zero, List.set_cons_succ]
          refine takeW (i := 3) (v := ?_) rfl (by kernel_rfl) (by kernel_rfl) (by kernel_rfl) (fun _ _ _ h => h) (by rfl) ?_ (by assumption) ?_
          rotate_left
          focus (intro w hSw; (try dsimp only at hSw); go_simp; try (with_reducible rfl))
          simp only [Act.put, List.setIfInBounds_toArray, List.set_cons_zero, List.set_cons_succ]
          refine takeU (i := 4) rfl (by kernel_rfl) (by kernel_rfl) (by kernel_rfl) (fun _ _ _ h => h) (by rfl) (by assumption) ?_
          simp only [Act.put, List.setIfInBounds_toArray, List.set_cons_zero, List.set_cons_succ]
          refine takeU (i := 5) rfl (by kernel_rfl) (by kernel_rfl) (by kernel_rfl) (fun _ _ _ h => h) (by rfl) (by assumption) ?_
          simp only [Act.put, List.setIfInBounds_toArray, List.set_cons_zero, List.set_cons_succ]
          refine takeU (i := 6) rfl (by kernel_rfl) (by kernel_rfl) (by kernel_rfl) (fun _ _ _ h => h) (by rfl) (by assumption) ?_
          simp only [Act.put, List.setIfInBounds_toArray, List.set_cons_zero, List.set_cons_succ]
          refine takeU (i := 7) rfl (by kernel_rfl) (by kernel_rfl) (by kernel_rfl) (fun _ _ _ h => h) (by rfl) (by assumption) ?_
          simp only [Act.put, List.setIfInBounds_toArray, List.set_cons_zero, List.set_cons_succ]
          refine takeU (i := 8) rfl (by kernel_rfl) (by kernel_rfl) (by kernel_rfl) (fun _ _ _ h => h) (by rfl) (by assumption) ?_
          simp only [Act.put, List.setIfInBounds_toArray, List.set_cons_zero, List.set_cons_succ]
          refine takeU (i := 9) rfl (by kernel_rfl) (by kernel_rfl) (by kernel_rfl) (fun _ _ _ h => h) (by rfl) (by assumption) ?_
          simp only [Act.put, List.setIfInBounds_toArray, List.set_cons_zero, List.set_cons_succ]
          refine takeU (i := 10) rfl (by kernel_rfl) (by kernel_rfl) (by kernel_rfl) (fun _ _ _ h => h) (by rfl) (by assumption) ?_
          simp only [Act.put, List.setIfInBounds_toArray, List.set_cons_zero, List.set_cons_succ]
          refine takeU (i := 11) rfl (by kernel_rfl) (by kernel_rfl) (by kernel_rfl) (fun _ _ _ h => h) (by rfl) (by assumption) ?_
          simp only [Act.put, List.setIfInBounds_toArray, List.set_cons_zero, List.set_cons_succ]
          refine takeU (i := 12) rfl (by kernel_rfl) (by kernel_rfl) (by kernel_rfl) (fun _ _ _ h => h) (by rfl) (by assumption) ?_
          simp only [Act.put, List.setIfInBounds_toArray, List.set_cons_zero, List.set_cons_succ]
          refine takeU (i := 13) rfl (by kernel_rfl) (by kernel_rfl) (by kernel_rfl) (fun _ _ _ h => h) (by rfl) (by assumption) ?_
          simp only [Act.put, List.setIfInBounds_toArray, List.set_cons_zero, List.set_cons_succ]
          refine takeU (i := 14) rfl (by kernel_rfl) (by kernel_rfl) (by kernel_rfl) (fun _ _ _ h => h) (by rfl) (by assumption) ?_
          simp only [Act.put, List.setIfInBounds_toArray, List.set_cons_zero, List.set_cons_succ]
          refine takeU (i := 15) rfl (by kernel_rfl) (by kernel_rfl) (by kernel_rfl) (fun _ _ _ h => h) (by rfl) (by assumption) ?_
          simp only [Act.put, List.setIfInBounds_toArray, List.set_cons_zero, List.set_cons_succ]
          refine takeW (i := 16) (v := ?_) rfl (by kernel_rfl) (by kernel_rfl) (by kernel_rfl) (fun _ _ _ h => h) (by rfl) ?_ (by assumption) ?_
          rotate_left
          focus (intro w hSw; (try dsimp only at hSw); go_simp; try (with_reducible rfl))
          simp only [Act.put, List.setIfInBounds_toArray, List.set_cons_zero, List.set_cons_succ]
          refine wpAnyH_done (by kernel_rfl) ?_ _
          go_wp2
          go_ret
          exact ⟨by rw [HF.out]; rfl, (show (fun w' : World => w'.cell? ⟨C, 0, none⟩ = some (.int .i64 x) ∧ w'.cell? ⟨C, 1, none⟩ = some (.int .i64 r) ∧ w'.cell? ⟨C, 2, none⟩ = some (tx t) ∧ Below w.heap.size w w') _ by assumption).2.2.2⟩
        | true =>
          rw [hr] at hm
          have HN := Lib.hid (HIN.out hr)
          clear hr
          cases k with
          | zero =>
            simp only [Nat.zero_mul, Nat.add_zero] at c1 c2 c3
            go_upto_region 4 with fail
            refine wp_region_held_drew (S := (fun w' : World => w'.cell? ⟨C, 0, none⟩ = some (.int .i64 x) ∧ w'.cell? ⟨C, 1, none⟩ = some (.int .i64 r) ∧ w'.cell? ⟨C, 2, none⟩ = some (tx t) ∧ Below w.heap.size w w')) (by kernel_rfl) ?_ (fun hHeld => ?_)
            · exact hk1.out _ _ hS1 (Below.drew (Below.refl _ _))
            refine takeW (i := 0) (v := ?_) rfl (by kernel_rfl) (by kernel_rfl) (by kernel_rfl) (fun _ _ _ h => h) (by rfl) ?_ (by assumption) ?_
            rotate_left
            focus (intro w hSw; (try dsimp only at hSw); go_simp; try (with_reducible rfl))
            simp only [Act.put, List.setIfInBounds_toArray, List.set_cons_zero, List.set_cons_succ]
            refine readyOne (i := 1) (by kernel_rfl) rfl (fun K hK => ?_)
            go_simp
            refine (keepB (fun w' : World => w'.cell? ⟨C, 0, none⟩ = some (.int .i64 x) ∧ w'.cell? ⟨C, 1, none⟩ = some (.int .i64 r) ∧ w'.cell? ⟨C, 2, none⟩ = some (tx t) ∧ Below w.heap.size w w') hk1.out (hm _) (by assumption)).mono ?_
            rintro e w9 ⟨rfl, kS⟩
            go_wp2_with fail
            refine hK.out _ _ kS (fun hHeld => ?_)
            clear hK K
            refine takeW (i := 2) (v := ?_) rfl (by kernel_rfl) (by kernel_rfl) (by kernel_rfl) (fun _ _ _ h => h) (by rfl) ?_ (by assumption) ?_
            rotate_left
            focus (intro w hSw; (try dsimp only at hSw); go_simp; try (with_reducible rfl))
            simp only [Act.put, List.setIfInBounds_toArray, List.set_cons_zero, List.set_cons_succ]
            refine takeW (i := 3) (v := ?_) rfl (by kernel_rfl) (by kernel_rfl) (by kernel_rfl) (fun _ _ _ h => h) (by rfl) ?_ (by assumption) ?_
            rotate_left
            focus (intro w hSw; (try dsimp only at hSw); go_simp; try (with_reducible rfl))
            simp only [Act.put, List.setIfInBounds_toArray, List.set_cons_zero, List.set_cons_succ]
            refine takeW (i := 4) (v := ?_) rfl (by kernel_rfl) (by kernel_rfl) (by kernel_rfl) (fun _ _ _ h => h) (by rfl) ?_ (by assumption) ?_
            rotate_left
            focus (intro w hSw; (try dsimp only at hSw); go_simp; try (with_reducible rfl))
            simp only [Act.put, List.setIfInBounds_toArray, List.set_cons_zero, List.set_cons_succ]
            refine takeW (i := 5) (v := ?_) rfl (by kernel_rfl) (by kernel_rfl) (by kernel_rfl) (fun _ _ _ h => h) (by rfl) ?_ (by assumption) ?_
            rotate_left
            focus (intro w hSw; (try dsimp only at hSw); go_simp; try (with_reducible rfl))
            simp only [Act.put, List.setIfInBounds_toArray, List.set_cons_zero, List.set_cons_succ]
            refine takeW (i := 6) (v := ?_) rfl (by kernel_rfl) (by kernel_rfl) (by kernel_rfl) (fun _ _ _ h => h) (by rfl) ?_ (by assumption) ?_
            rotate_left
            focus (intro w hSw; (try dsimp only at hSw); go_simp; try (with_reducible rfl))
            simp only [Act.put, List.setIfInBounds_toArray, List.set_cons_zero, List.set_cons_succ]
            refine takeU (i := 7) rfl (by kernel_rfl) (by kernel_rfl) (by kernel_rfl) (fun _ _ _ h => h) (by rfl) (by assumption) ?_
            simp only [Act.put, List.setIfInBounds_toArray, List.set_cons_zero, List.set_cons_succ]
            refine takeU (i := 8) rfl (by kernel_rfl) (by kernel_rfl) (by kernel_rfl) (fun _ _ _ h => h) (by rfl) (by assumption) ?_
            simp only [Act.put, List.setIfInBounds_toArray, List.set_cons_zero, List.set_cons_succ]
            refine takeU (i := 9) rfl (by kernel_rfl) (by kernel_rfl) (by kernel_rfl) (fun _ _ _ h => h) (by rfl) (by assumption) ?_
            simp only [Act.put, List.setIfInBounds_toArray, List.set_cons_zero, List.set_cons_succ]
            refine takeU (i := 10) rfl (by kernel_rfl) (by kernel_rfl) (by kernel_rfl) (fun _ _ _ h => h) (by rfl) (by assumption) ?_
            simp only [Act.put, List.setIfInBounds_toArray, List.set_cons_zero, List.set_cons_succ]
            refine takeU (i := 11) rfl (by kernel_rfl) (by kernel_rfl) (by kernel_rfl) (fun _ _ _ h => h) (by rfl) (by assumption) ?_
            simp only [Act.put, List.setIfInBounds_toArray, List.set_cons_zero, List.set_cons_succ]
            refine takeU (i := 12) rfl (by kernel_rfl) (by kernel_rfl) (by kernel_rfl) (fun _ _ _ h => h) (by rfl) (by assumption) ?_
            simp only [Act.put, List.setIfInBounds_toArray, List.set_cons_zero, List.set_cons_succ]
            refine takeU (i := 13) rfl (by kernel_rfl) (by kernel_rfl) (by kernel_rfl) (fun _ _ _ h => h) (by rfl) (by assumption) ?_
            simp only [Act.put, List.setIfInBounds_toArray, List.set_cons_zero, List.set_cons_succ]
            refine takeU (i := 14) rfl (by kernel_rfl) (by kernel_rfl) (by kernel_rfl) (fun _ _ _ h => h) (by rfl) (by assumption) ?_
            simp only [Act.put, List.setIfInBounds_toArray, List.set_cons_zero, List.set_cons_succ]
            refine takeW (i := 15) (v := ?_) rfl (by kernel_rfl) (by kernel_rfl) (by kernel_rfl) (fun _ _ _ h => h) (by rfl) ?_ (by assumption) ?_
            rotate_left
            focus (intro w hSw; (try dsimp only at hSw); go_simp; try (with_reducible rfl))
            simp only [Act.put, List.setIfInBounds_toArray, List.set_cons_zero, List.set_cons_succ]
            refine takeW (i := 16) (v := ?_) rfl (by kernel_rfl) (by kernel_rfl) (by kernel_rfl) (fun _ _ _ h => h) (by rfl) ?_ (by assumption) ?_
            rotate_left
            focus (intro w hSw; (try dsimp only at hSw); go_simp; try (with_reducible rfl))
            simp only [Act.put, List.setIfInBounds_toArray, List.set_cons_zero, List.set_cons_succ]
            refine wpAnyH_done (by kernel_rfl) ?_ _
            go_wp2
            go_roundw
            case rel => exact ⟨0 + 1, by go_num, hlt, HN.out, fun _ _ h => absurd h (by omega), (show (fun w' : World => w'.cell? ⟨C, 0, none⟩ = some (.int .i64 x) ∧ w'.cell? ⟨C, 1, none⟩ = some (.int .i64 r) ∧ w'.cell? ⟨C, 2, none⟩ = some (tx t) ∧ Below w.heap.size w w') _ by assumption).2.2.2⟩
            case measure => simp [intOf]; omega
          | succ j =>
            obtain ⟨p1', p2', p3'⟩ := HC.out j (by omega)
            have p1 := below_cell HB.out p1'
            have p2 := below_cell HB.out p2'
            have p3 := below_cell HB.out p3'
            clear p1' p2' p3'
            have hat := HAT.out j rfl
            have hst := HST.out j rfl
            clear HAT HST
            obtain ⟨y, hx⟩ : ∃ y, l[j]'(by omega) = y := ⟨_, rfl⟩
            simp only [hx] at p1 p2 p3 hat hst
            have hcmp := fun W => pcompare y (x, r, t) W
            have hneg := cmpB_ge y (x, r, t)
            obtain ⟨x', r', t'⟩ := y
            simp only [iv] at p1 p2 p3 hcmp
            generalize cmpB (x', r', t') (x, r, t) = q at *
            have hS2 : (fun w' : World => w'.cell? ⟨C, 0, none⟩ = some (.int .i64 x) ∧ w'.cell? ⟨C, 1, none⟩ = some (.int .i64 r) ∧ w'.cell? ⟨C, 2, none⟩ = some (tx t) ∧ w'.cell? ⟨b, off + j * 3, none⟩ = some (.int .i64 x') ∧ w'.cell? ⟨b, off + j * 3 + 1, none⟩ = some (.int .i64 r') ∧ w'.cell? ⟨b, off + j * 3 + 2, none⟩ = some (tx t') ∧ Below w.heap.size w w') (wr.alloc (.cells #[.int .i64 x, .int .i64 r, tx t] 24)) :=
              ⟨hS1.1, hS1.2.1, hS1.2.2.1, below_cell ((Below.refl _ wr).alloc (Nat.le_refl _) _) p1, below_cell ((Below.refl _ wr).alloc (Nat.le_refl _) _) p2, below_cell ((Below.refl _ wr).alloc (Nat.le_refl _) _) p3, HB.out.alloc HB.out.size _⟩
            have hk2 := Lib.hid (show ∀ A1 A2 : World, (fun w' : World => w'.cell? ⟨C, 0, none⟩ = some (.int .i64 x) ∧ w'.cell? ⟨C, 1, none⟩ = some (.int .i64 r) ∧ w'.cell? ⟨C, 2, none⟩ = some (tx t) ∧ w'.cell? ⟨b, off + j * 3, none⟩ = some (.int .i64 x') ∧ w'.cell? ⟨b, off + j * 3 + 1, none⟩ = some (.int .i64 r') ∧ w'.cell? ⟨b, off + j * 3 + 2, none⟩ = some (tx t') ∧ Below w.heap.size w w') A1 → Below A1.heap.size A1 A2 → (fun w' : World => w'.cell? ⟨C, 0, none⟩ = some (.int .i64 x) ∧ w'.cell? ⟨C, 1, none⟩ = some (.int .i64 r) ∧ w'.cell? ⟨C, 2, none⟩ = some (tx t) ∧ w'.cell? ⟨b, off + j * 3, none⟩ = some (.int .i64 x') ∧ w'.cell? ⟨b, off + j * 3 + 1, none⟩ = some (.int .i64 r') ∧ w'.cell? ⟨b, off + j * 3 + 2, none⟩ = some (tx t') ∧ Below w.heap.size w w') A2 from fun A1 A2 ⟨k0, k1, k2, k3, k4, k5, kb⟩ h => ⟨below_cell h k0, below_cell h k1, below_cell h k2, below_cell h k3, below_cell h k4, below_cell h k5, grow_trans kb h⟩)
            have hpos : decide ((0 : Int) < (j : Int) + 1) = true := by rw [decide_eq_true_iff]; omega
            have hj2 : (j : Int) + 1 < (l.length : Int) := by omega
            have hj3 : (0 : Int) ≤ (j : Int) := by omega
            have hj4 : (j : Int) < (l.length : Int) := by omega
            have hj6 : (j : Int).toNat = j := by omega
            have hj7 : IntKind.i64.wrap (j : Int) = (j : Int) := IntWalk.i64_in _ ⟨by omega, by omega⟩
            have hj8 : IntKind.i64.wrap ((j : Int) + 1 - 1) = (j : Int) := by rw [Int.add_sub_cancel]; exact hj7
            clear hk1 hS1
            cases hq : Vt.ahead (x', r', t') (x, r, t) with
            | false =>
              have HF := Lib.hid (hat hq)
              rw [hq] at hneg
              have hn2 : decide (0 ≤ q) = true := hneg
              clear hq hneg hat hst
              go_upto_region 4 with fail
              go_region_held3 (fun w' : World => w'.cell? ⟨C, 0, none⟩ = some (.int .i64 x) ∧ w'.cell? ⟨C, 1, none⟩ = some (.int .i64 r) ∧ w'.cell? ⟨C, 2, none⟩ = some (tx t) ∧ w'.cell? ⟨b, off + j * 3, none⟩ = some (.int .i64 x') ∧ w'.cell? ⟨b, off + j * 3 + 1, none⟩ = some (.int .i64 r') ∧ w'.cell? ⟨b, off + j * 3 + 2, none⟩ = some (tx t') ∧ Below w.heap.size w w')
                (first | assumption | exact hk2.out _ _ hS2 (Below.drew (Below.refl _ _)) | exact hk2.out _ _ (by assumption) ((Below.refl _ _).alloc (Nat.le_refl _) _))
                (first
                  | (go_at_call 19; refine (keepB (fun w' : World => w'.cell? ⟨C, 0, none⟩ = some (.int .i64 x) ∧ w'.cell? ⟨C, 1, none⟩ = some (.int .i64 r) ∧ w'.cell? ⟨C, 2, none⟩ = some (tx t) ∧ w'.cell? ⟨b, off + j * 3, none⟩ = some (.int .i64 x') ∧ w'.cell? ⟨b, off + j * 3 + 1, none⟩ = some (.int .i64 r') ∧ w'.cell? ⟨b, off + j * 3 + 2, none⟩ = some (tx t') ∧ Below w.heap.size w w') hk2.out (hm _) (by assumption)).mono ?_; rintro e w9 ⟨rfl, kS⟩)
                  | (go_at_call 27; refine (keepB (fun w' : World => w'.cell? ⟨C, 0, none⟩ = some (.int .i64 x) ∧ w'.cell? ⟨C, 1, none⟩ = some (.int .i64 r) ∧ w'.cell? ⟨C, 2, none⟩ = some (tx t) ∧ w'.cell? ⟨b, off + j * 3, none⟩ = some (.int .i64 x') ∧ w'.cell? ⟨b, off + j * 3 + 1, none⟩ = some (.int .i64 r') ∧ w'.cell? ⟨b, off + j * 3 + 2, none⟩ = some (tx t') ∧ Below w.heap.size w w') hk2.out (hcmp _) (by assumption)).mono ?_; rintro e w9 ⟨rfl, kS⟩))
              all_goals go_wp2
              all_goals go_ret
              all_goals exact ⟨by rw [HF.out]; rfl, (show (fun w' : World => w'.cell? ⟨C, 0, none⟩ = some (.int .i64 x) ∧ w'.cell? ⟨C, 1, none⟩ = some (.int .i64 r) ∧ w'.cell? ⟨C, 2, none⟩ = some (tx t) ∧ w'.cell? ⟨b, off + j * 3, none⟩ = some (.int .i64 x') ∧ w'.cell? ⟨b, off + j * 3 + 1, none⟩ = some (.int .i64 r') ∧ w'.cell? ⟨b, off + j * 3 + 2, none⟩ = some (tx t') ∧ Below w.heap.size w w') _ by assumption).2.2.2.2.2.2⟩
            | true =>
              have HN2 := Lib.hid (hst hq)
              rw [hq] at hneg
              have hn2 : decide (0 ≤ q) = false := hneg
              clear hq hneg hat hst
              go_upto_region 4 with fail
              go_region_held3 (fun w' : World => w'.cell? ⟨C, 0, none⟩ = some (.int .i64 x) ∧ w'.cell? ⟨C, 1, none⟩ = some (.int .i64 r) ∧ w'.cell? ⟨C, 2, none⟩ = some (tx t) ∧ w'.cell? ⟨b, off + j * 3, none⟩ = some (.int .i64 x') ∧ w'.cell? ⟨b, off + j * 3 + 1, none⟩ = some (.int .i64 r') ∧ w'.cell? ⟨b, off + j * 3 + 2, none⟩ = some (tx t') ∧ Below w.heap.size w w')
                (first | assumption | exact hk2.out _ _ hS2 (Below.drew (Below.refl _ _)) | exact hk2.out _ _ (by assumption) ((Below.refl _ _).alloc (Nat.le_refl _) _))
                (first
                  | (go_at_call 19; refine (keepB (fun w' : World => w'.cell? ⟨C, 0, none⟩ = some (.int .i64 x) ∧ w'.cell? ⟨C, 1, none⟩ = some (.int .i64 r) ∧ w'.cell? ⟨C, 2, none⟩ = some (tx t) ∧ w'.cell? ⟨b, off + j * 3, none⟩ = some (.int .i64 x') ∧ w'.cell? ⟨b, off + j * 3 + 1, none⟩ = some (.int .i64 r') ∧ w'.cell? ⟨b, off + j * 3 + 2, none⟩ = some (tx t') ∧ Below w.heap.size w w') hk2.out (hm _) (by assumption)).mono ?_; rintro e w9 ⟨rfl, kS⟩)
                  | (go_at_call 27; refine (keepB (fun w' : World => w'.cell? ⟨C, 0, none⟩ = some (.int .i64 x) ∧ w'.cell? ⟨C, 1, none⟩ = some (.int .i64 r) ∧ w'.cell? ⟨C, 2, none⟩ = some (tx t) ∧ w'.cell? ⟨b, off + j * 3, none⟩ = some (.int .i64 x') ∧ w'.cell? ⟨b, off + j * 3 + 1, none⟩ = some (.int .i64 r') ∧ w'.cell? ⟨b, off + j * 3 + 2, none⟩ = some (tx t') ∧ Below w.heap.size w w') hk2.out (hcmp _) (by assumption)).mono ?_; rintro e w9 ⟨rfl, kS⟩))
              all_goals go_wp2
              all_goals go_roundw
              all_goals first
                | exact ⟨j + 1 + 1, by go_num, hlt, HN.out, HN2.out, (show (fun w' : World => w'.cell? ⟨C, 0, none⟩ = some (.int .i64 x) ∧ w'.cell? ⟨C, 1, none⟩ = some (.int .i64 r) ∧ w'.cell? ⟨C, 2, none⟩ = some (tx t) ∧ w'.cell? ⟨b, off + j * 3, none⟩ = some (.int .i64 x') ∧ w'.cell? ⟨b, off + j * 3 + 1, none⟩ = some (.int .i64 r') ∧ w'.cell? ⟨b, off + j * 3 + 2, none⟩ = some (tx t') ∧ Below w.heap.size w w') _ by assumption).2.2.2.2.2.2⟩
                | (simp [intOf]; omega)
      · obtain rfl : k = l.length := by omega
        have hf : Vt.right l = true := Vt.right_true l (fun j h => HI.out j h h) (fun j h => HA.out j h h)
        have HF := Lib.hid hf
        clear hf
        go_wp2
        go_ret
        exact ⟨by rw [HF.out]; rfl, HB.out⟩
end Go.Proofs.Ytjngjmhhfhkbkaa
