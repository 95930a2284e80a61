/- What shares open: the document's Weight and Open. (Written by gen-shopen.py.) -/
import Derived.Test.YtngmkokmomficaaShOpen
namespace Go.Proofs.Ytngmkokmomficaa
open Go.RowKit
attribute [local go_sem] build_el build_el0 build_el1

set_option maxHeartbeats 8000000 in
set_option maxRecDepth 100000 in
theorem rweight_any (v : Value) (l : List Sr.Shr) (k : Int) (w : World) (hv : FlatAt w v 3 (shrs l)) (hlen : l.length ≤ 140737488351232) :
    Calls Try.prog 19 #[v, .int .i64 k] w fun e w' => e = .returned (.tuple #[elv (Sr.weightE l k).1, .int .i64 (Sr.weightE l k).2]) ∧ Below w.heap.size w w' := by
  have hap := Lib.hid (fun (W : World) (hb : Below w.heap.size w W) => rapart_any v l W (hv.below hb) hlen)
  have hrow := Lib.hid (fun (w' : World) (hb : Below w.heap.size w w') (h0 : 0 < l.length) => shrs_row hv hb h0)
  have hb0 : Below w.heap.size w (w.alloc (.cells #[.int .i64 0, .int .i64 0] 24)) := (Below.refl _ _).alloc (Nat.le_refl _) _
  have hz0 := EBox.new w 0 0
  cases ha : Sr.apart (Sr.ids l) with
  | false =>
    obtain ⟨av, cv, rfl⟩ := hv.len (n := l.length) (shrs_len l) (by omega)
    rw [weightE_bad l k (.inr (.inr ha))]
    rw [ha] at hap
    clear hv ha
    go_enter Try.func19, Try.ntmps19
    go_wp2_with fail
    refine (hap.out _ hb0).mono ?_
    rintro e w1 ⟨rfl, h1⟩
    have hz1 := hz0.kept h1
    have hb1 := hb0.trans (h1.mono hb0.size)
    obtain ⟨z0, z1, f0, f1⟩ := hz1.facts
    go_wp2
    refine bodyPost_ret (v := .tuple #[elv ((0, 0) : Ga.E), .int .i64 1]) ?_ rfl ⟨rfl, ?_⟩
    · obtain ⟨d0, d1, _, _⟩ := (hz1.set ((0, 0) : Ga.E).1 ((0, 0) : Ga.E).2).facts
      simp [results, Try.f19, go_sem, d0, d1]
    · exact (hb1.setCell (p := ⟨w.heap.size, 0, none⟩) (by simp) _).setCell (p := ⟨w.heap.size, 1, none⟩) (by simp) _
  | true =>
    rw [ha] at hap
    by_cases h1 : k < 0
    · obtain ⟨av, cv, rfl⟩ := hv.len (n := l.length) (shrs_len l) (by omega)
      rw [weightE_bad l k (.inl h1)]
      have t1 : decide (k < (0 : Int)) = true := decide_eq_true h1
      clear hv h1 ha
      go_enter Try.func19, Try.ntmps19
      go_wp2_with fail
      refine (hap.out _ hb0).mono ?_
      rintro e w1 ⟨rfl, h1⟩
      have hz1 := hz0.kept h1
      have hb1 := hb0.trans (h1.mono hb0.size)
      obtain ⟨z0, z1, f0, f1⟩ := hz1.facts
      go_wp2
      refine bodyPost_ret (v := .tuple #[elv ((0, 0) : Ga.E), .int .i64 1]) ?_ rfl ⟨rfl, ?_⟩
      · obtain ⟨d0, d1, _, _⟩ := (hz1.set ((0, 0) : Ga.E).1 ((0, 0) : Ga.E).2).facts
        simp [results, Try.f19, go_sem, d0, d1]
      · exact (hb1.setCell (p := ⟨w.heap.size, 0, none⟩) (by simp) _).setCell (p := ⟨w.heap.size, 1, none⟩) (by simp) _
    have t1 : decide (k < (0 : Int)) = false := decide_eq_false h1
    by_cases h2 : (l.length : Int) ≤ k
    · obtain ⟨av, cv, rfl⟩ := hv.len (n := l.length) (shrs_len l) (by omega)
      rw [weightE_bad l k (.inr (.inl h2))]
      have t2 : decide ((l.length : Int) ≤ k) = true := decide_eq_true h2
      clear hv h1 h2 ha
      go_enter Try.func19, Try.ntmps19
      go_wp2_with fail
      refine (hap.out _ hb0).mono ?_
      rintro e w1 ⟨rfl, h1⟩
      have hz1 := hz0.kept h1
      have hb1 := hb0.trans (h1.mono hb0.size)
      obtain ⟨z0, z1, f0, f1⟩ := hz1.facts
      go_wp2
      refine bodyPost_ret (v := .tuple #[elv ((0, 0) : Ga.E), .int .i64 1]) ?_ rfl ⟨rfl, ?_⟩
      · obtain ⟨d0, d1, _, _⟩ := (hz1.set ((0, 0) : Ga.E).1 ((0, 0) : Ga.E).2).facts
        simp [results, Try.f19, go_sem, d0, d1]
      · exact (hb1.setCell (p := ⟨w.heap.size, 0, none⟩) (by simp) _).setCell (p := ⟨w.heap.size, 1, none⟩) (by simp) _
    obtain ⟨k, rfl⟩ : ∃ j : Nat, k = (j : Int) := ⟨k.toNat, by omega⟩
    have hk : k < l.length := by omega
    have t2 : decide ((l.length : Int) ≤ (k : Int)) = false := decide_eq_false h2
    have t2n : decide (l.length ≤ k) = false := decide_eq_false (by omega)
    rw [weightE_good l k hk ha]
    obtain ⟨b, off, cap, rfl, hblt, hc⟩ := shrs_row hv (Below.refl _ w) (by omega)
    have HRR := Lib.hid (fun (w' : World) (hb : Below w.heap.size w w') (j : Nat) (hj : j < l.length) => below_cell hb (hc j hj).1)
    have HK := Lib.hid (show ∀ j (h : j < l.length), (Sr.ids l).getD j 0 = l[j].1 from fun j h => by rw [Sr.getD_at _ _ (by rw [Sr.ids_len]; exact h)]; simp [Sr.ids])
    have HX := Lib.hid (fun (w' : World) (hb : Below w.heap.size w w') => HRR.out w' hb k hk)
    obtain ⟨x, hx⟩ : ∃ x, l[k].1 = x := ⟨_, rfl⟩
    rw [hx] at HX
    have HKX := Lib.hid ((HK.out k hk).trans hx)
    have HW := Lib.hid (show Sr.wtE (Sr.ids l) k = Ga.mul (Sr.overE (Sr.ids l) k l.length) (Ga.inv (Sr.underE (Sr.ids l) k l.length)).1 by rw [Sr.wtE, Sr.ids_len])
    obtain ⟨R, hR⟩ : ∃ R, Sr.wtE (Sr.ids l) k = R := ⟨_, rfl⟩
    rw [hR] at HW ⊢
    have tk : (k : Int) < (l.length : Int) := by omega
    clear hx hR hc hv hrow h1 h2 ha
    go_enter Try.func19, Try.ntmps19
    go_wp2_with fail
    refine (hap.out _ hb0).mono ?_
    rintro e w1 ⟨rfl, h1⟩
    have hz1 := hz0.kept h1
    have hb1 := hb0.trans (h1.mono hb0.size)
    clear h1 hz0 hb0
    obtain ⟨B, hB⟩ : ∃ B, w1.heap.size = B := ⟨_, rfl⟩
    have hBl : w.heap.size < B := by rw [← hB]; exact hz1.lt
    have ho1 := (EBox.new w1 1 0).alloc (.cells #[.int .i64 1, .int .i64 0] 24)
    have hu1 := EBox.new (w1.alloc (.cells #[.int .i64 1, .int .i64 0] 24)) 1 0
    simp only [World.size_alloc] at hu1
    rw [hB] at ho1 hu1
    have hz2 := (hz1.alloc (.cells #[.int .i64 1, .int .i64 0] 24)).alloc (.cells #[.int .i64 1, .int .i64 0] 24)
    have hb2 := (hb1.alloc hb1.size (.cells #[.int .i64 1, .int .i64 0] 24)).alloc (by have := hb1.size; simp; omega) (.cells #[.int .i64 1, .int .i64 0] 24)
    clear hz1 hb1
    go_wp2_with fail
    clear hB
    go_loopw [9] (fun i wr => ∃ j : Nat, i = .int .i64 j ∧ j ≤ l.length ∧ EBox wr B (Sr.overE (Sr.ids l) k j) ∧ EBox wr (B + 1) (Sr.underE (Sr.ids l) k j) ∧ EBox wr w.heap.size (0, 0) ∧ Below w.heap.size w wr) (fun i _ => l.length - (intOf i).toNat)
    case atStart => exact ⟨0, rfl, by omega, ho1, hu1, hz2, hb2⟩
    case round =>
      clear ho1 hu1 hz2 hb2
      obtain ⟨j, rfl, hj, ho, hu, hz, hb⟩ := hrel
      by_cases hlt : j < l.length
      · have tj : (j : Int) < (l.length : Int) := by omega
        by_cases hjk : j = k
        · have t3 : ((j : Int) == (k : Int)) = true := by rw [beq_iff_eq]; omega
          have e1 : Sr.overE (Sr.ids l) k (j + 1) = Sr.overE (Sr.ids l) k j := by rw [Sr.overE, if_pos hjk]
          have e2 : Sr.underE (Sr.ids l) k (j + 1) = Sr.underE (Sr.ids l) k j := by rw [Sr.underE, if_pos hjk]
          have X1 := Lib.hid e1
          have X2 := Lib.hid e2
          clear e1 e2 hjk
          go_wp2
          go_roundw
          case rel => exact ⟨j + 1, by go_num, by omega, by rw [X1.out]; exact ho, by rw [X2.out]; exact hu, hz, hb⟩
          case measure => simp [intOf]; omega
        · have t3 : ((j : Int) == (k : Int)) = false := by rw [beq_eq_false_iff_ne]; omega
          have e1 : Sr.overE (Sr.ids l) k (j + 1) = Ga.mul (Sr.overE (Sr.ids l) k j) (l[j].1, 0) := by rw [Sr.overE, if_neg hjk, HK.out j hlt]
          have e2 : Sr.underE (Sr.ids l) k (j + 1) = Ga.mul (Sr.underE (Sr.ids l) k j) (Ga.sub (l[j].1, 0) (x, 0)) := by rw [Sr.underE, if_neg hjk, HK.out j hlt, HKX.out]
          have cy := HRR.out wr hb j hlt
          obtain ⟨y, hyj⟩ : ∃ y, l[j].1 = y := ⟨_, rfl⟩
          rw [hyj] at e1 e2 cy
          obtain ⟨o1, ho1⟩ : ∃ z, Sr.overE (Sr.ids l) k j = z := ⟨_, rfl⟩
          obtain ⟨u1, hu1⟩ : ∃ z, Sr.underE (Sr.ids l) k j = z := ⟨_, rfl⟩
          rw [ho1] at e1 ho
          rw [hu1] at e2 hu
          obtain ⟨o2, ho2⟩ : ∃ z, Ga.mul o1 (y, 0) = z := ⟨_, rfl⟩
          obtain ⟨s2, hs2⟩ : ∃ z, Ga.sub (y, 0) (x, 0) = z := ⟨_, rfl⟩
          obtain ⟨u2, hu2⟩ : ∃ z, Ga.mul u1 s2 = z := ⟨_, rfl⟩
          rw [ho2] at e1
          rw [hs2, hu2] at e2
          have HO := Lib.hid e1
          have HU2 := Lib.hid e2
          have H1 := Lib.hid ho2
          have H2 := Lib.hid hs2
          have H3 := Lib.hid hu2
          obtain ⟨d0, d1, _, _⟩ := ho.facts
          have hud : EBox wr.drew B o1 := ho
          have hS0 : (fun w' : World => w'.cell? ⟨b, off + j * 3, none⟩ = some (.int .i64 y) ∧ (∃ q : Ga.E, EBox w' (B) q) ∧ EBox w' (w.heap.size) (0, 0) ∧ EBox w' (B + 1) u1 ∧ Below w.heap.size w w') wr := ⟨cy, ⟨o1, ho⟩, hz, hu, hb⟩
          have hkp := Lib.hid (show ∀ A1 A2 : World, (fun w' : World => w'.cell? ⟨b, off + j * 3, none⟩ = some (.int .i64 y) ∧ (∃ q : Ga.E, EBox w' (B) q) ∧ EBox w' (w.heap.size) (0, 0) ∧ EBox w' (B + 1) u1 ∧ Below w.heap.size w w') A1 → Below A1.heap.size A1 A2 → (fun w' : World => w'.cell? ⟨b, off + j * 3, none⟩ = some (.int .i64 y) ∧ (∃ q : Ga.E, EBox w' (B) q) ∧ EBox w' (w.heap.size) (0, 0) ∧ EBox w' (B + 1) u1 ∧ Below w.heap.size w w') A2 from fun A1 A2 ⟨k0, ⟨q, kq⟩, m0, m1, kb⟩ h => ⟨below_cell h k0, ⟨q, kq.kept h⟩, m0.kept h, m1.kept h, kb.trans (h.mono kb.size)⟩)
          clear e1 e2 ho1 hu1 ho2 hs2 hu2 hjk hyj hz hu hb
          go_wp2_with fail
          refine wp_region_held_drew (S := (fun w' : World => w'.cell? ⟨b, off + j * 3, none⟩ = some (.int .i64 y) ∧ (∃ q : Ga.E, EBox w' (B) q) ∧ EBox w' (w.heap.size) (0, 0) ∧ EBox w' (B + 1) u1 ∧ Below w.heap.size w w')) (by kernel_rfl) ?_ (fun hHeld => ?_)
          · exact hkp.out _ _ hS0 (Below.drew (Below.refl _ _))
          refine takeW (i := 1) (v := ?_) rfl (by kernel_rfl) (by kernel_rfl) (by kernel_rfl) (fun _ _ _ h => h) (by rfl) ?_ (by assumption) ?_
          rotate_left
          focus (intro w hSw; (try dsimp only at hSw); go_simp; try (with_reducible rfl))
          simp only [Act.put, List.setIfInBounds_toArray, List.set_cons_zero, List.set_cons_succ]
          refine takeW (i := 2) (v := ?_) rfl (by kernel_rfl) (by kernel_rfl) (by kernel_rfl) (fun _ _ _ h => h) (by rfl) ?_ (by assumption) ?_
          rotate_left
          focus (intro w hSw; (try dsimp only at hSw); go_simp; try (with_reducible rfl))
          simp only [Act.put, List.setIfInBounds_toArray, List.set_cons_zero, List.set_cons_succ]
          refine takeW (i := 3) (v := ?_) rfl (by kernel_rfl) (by kernel_rfl) (by kernel_rfl) (fun _ _ _ h => h) (by rfl) ?_ (by assumption) ?_
          rotate_left
          focus (intro w hSw; (try dsimp only at hSw); go_simp; try (with_reducible rfl))
          simp only [Act.put, List.setIfInBounds_toArray, List.set_cons_zero, List.set_cons_succ]
          refine takeW (i := 4) (v := ?_) rfl (by kernel_rfl) (by kernel_rfl) (by kernel_rfl) (fun _ _ _ h => h) (by rfl) ?_ (by assumption) ?_
          rotate_left
          focus (intro w hSw; (try dsimp only at hSw); go_simp; try (with_reducible rfl))
          simp only [Act.put, List.setIfInBounds_toArray, List.set_cons_zero, List.set_cons_succ]
          refine takeW (i := 5) (v := ?_) rfl (by kernel_rfl) (by kernel_rfl) (by kernel_rfl) (fun _ _ _ h => h) (by rfl) ?_ (by assumption) ?_
          rotate_left
          focus (intro w hSw; (try dsimp only at hSw); go_simp; try (with_reducible rfl))
          simp only [Act.put, List.setIfInBounds_toArray, List.set_cons_zero, List.set_cons_succ]
          refine takeW (i := 6) (v := ?_) rfl (by kernel_rfl) (by kernel_rfl) (by kernel_rfl) (fun _ _ _ h => h) (by rfl) ?_ (by assumption) ?_
          rotate_left
          focus (intro w hSw; (try dsimp only at hSw); go_simp; try (with_reducible rfl))
          simp only [Act.put, List.setIfInBounds_toArray, List.set_cons_zero, List.set_cons_succ]
          refine readyOne (i := 0) (by kernel_rfl) rfl (fun K hK => ?_)
          go_simp
          refine hK.out _ _ ?_ (fun hHeld => ?_)
          · assumption
          clear hK K
          refine readyOne (i := 7) (by kernel_rfl) rfl (fun K hK => ?_)
          go_simp
          refine (keepS (fun w' : World => w'.cell? ⟨b, off + j * 3, none⟩ = some (.int .i64 y) ∧ (∃ q : Ga.E, EBox w' (B) q) ∧ EBox w' (w.heap.size) (0, 0) ∧ EBox w' (B + 1) u1 ∧ Below w.heap.size w w') hkp.out (rmul_eq H1.out _) (by assumption)).mono ?_
          rintro e w5 ⟨rfl, kS⟩
          have kS' := kS
          obtain ⟨k0, ⟨q0, hq0⟩, m0, m1, kb⟩ := kS'
          obtain ⟨e0, e1, f0, f1⟩ := hq0.facts
          refine hK.out _ _ kS (fun hHeld => ?_)
          clear hK K
          refine readyOne (i := 8) (by kernel_rfl) rfl (fun K hK => ?_)
          go_simp
          refine hK.out _ _ ?_ (fun hHeld => ?_)
          · exact ⟨(World.cell?_setCell_far _ _ _ _ (by first | (simp; done) | (simp; omega))).trans ((World.cell?_setCell_far _ _ _ _ (by first | (simp; done) | (simp; omega))).trans k0), ⟨o2, hq0.set o2.1 o2.2⟩, (m0.other _ 0 _ (by omega)).other _ 1 _ (by omega), (m1.other _ 0 _ (by omega)).other _ 1 _ (by omega), (kb.setCell (p := ⟨B, 0, none⟩) (by first | (simp; done) | (simp; omega)) _).setCell (p := ⟨B, 1, none⟩) (by first | (simp; done) | (simp; omega)) _⟩
          clear hK K
          refine wpAnyH_done (by kernel_rfl) ?_ _
          have ho3 := hq0.set o2.1 o2.2
          have hH10 := hHeld
          clear hHeld k0 m0 m1 kb hq0 kS hkp hS0 hud
          generalize (w5.setCell ⟨B, 0, none⟩ (.int .i64 o2.1)).setCell ⟨B, 1, none⟩ (.int .i64 o2.2) = w6 at *
          obtain ⟨k0, _, hz3, hu3, hb3⟩ := hH10
          have k1 := HX.out w6 hb3
          obtain ⟨d0, d1, _, _⟩ := hu3.facts
          have hud : EBox w6.drew (B + 1) u1 := hu3
          have hS0 : (fun w' : World => w'.cell? ⟨b, off + j * 3, none⟩ = some (.int .i64 y) ∧ w'.cell? ⟨b, off + k * 3, none⟩ = some (.int .i64 x) ∧ (∃ q : Ga.E, EBox w' (B + 1) q) ∧ EBox w' (w.heap.size) (0, 0) ∧ EBox w' (B) o2 ∧ Below w.heap.size w w') w6 := ⟨k0, k1, ⟨u1, hu3⟩, hz3, ho3, hb3⟩
          have hkp := Lib.hid (show ∀ A1 A2 : World, (fun w' : World => w'.cell? ⟨b, off + j * 3, none⟩ = some (.int .i64 y) ∧ w'.cell? ⟨b, off + k * 3, none⟩ = some (.int .i64 x) ∧ (∃ q : Ga.E, EBox w' (B + 1) q) ∧ EBox w' (w.heap.size) (0, 0) ∧ EBox w' (B) o2 ∧ Below w.heap.size w w') A1 → Below A1.heap.size A1 A2 → (fun w' : World => w'.cell? ⟨b, off + j * 3, none⟩ = some (.int .i64 y) ∧ w'.cell? ⟨b, off + k * 3, none⟩ = some (.int .i64 x) ∧ (∃ q : Ga.E, EBox w' (B + 1) q) ∧ EBox w' (w.heap.size) (0, 0) ∧ EBox w' (B) o2 ∧ Below w.heap.size w w') A2 from fun A1 A2 ⟨k0, k1, ⟨q, kq⟩, m0, m1, kb⟩ h => ⟨below_cell h k0, below_cell h k1, ⟨q, kq.kept h⟩, m0.kept h, m1.kept h, kb.trans (h.mono kb.size)⟩)
          clear hz3 ho3 hb3
          go_wp2_with fail
          refine wp_region_held_drew (S := (fun w' : World => w'.cell? ⟨b, off + j * 3, none⟩ = some (.int .i64 y) ∧ w'.cell? ⟨b, off + k * 3, none⟩ = some (.int .i64 x) ∧ (∃ q : Ga.E, EBox w' (B + 1) q) ∧ EBox w' (w.heap.size) (0, 0) ∧ EBox w' (B) o2 ∧ Below w.heap.size w w')) (by kernel_rfl) ?_ (fun hHeld => ?_)
          · exact hkp.out _ _ hS0 (Below.drew (Below.refl _ _))
          refine takeW (i := 1) (v := ?_) rfl (by kernel_rfl) (by kernel_rfl) (by kernel_rfl) (fun _ _ _ h => h) (by rfl) ?_ (by assumption) ?_
          rotate_left
          focus (intro w hSw; (try dsimp only at hSw); go_simp; try (with_reducible rfl))
          simp only [Act.put, List.setIfInBounds_toArray, List.set_cons_zero, List.set_cons_succ]
          refine takeW (i := 2) (v := ?_) rfl (by kernel_rfl) (by kernel_rfl) (by kernel_rfl) (fun _ _ _ h => h) (by rfl) ?_ (by assumption) ?_
          rotate_left
          focus (intro w hSw; (try dsimp only at hSw); go_simp; try (with_reducible rfl))
          simp only [Act.put, List.setIfInBounds_toArray, List.set_cons_zero, List.set_cons_succ]
          refine takeW (i := 7) (v := ?_) rfl (by kernel_rfl) (by kernel_rfl) (by kernel_rfl) (fun _ _ _ h => h) (by rfl) ?_ (by assumption) ?_
          rotate_left
          focus (intro w hSw; (try dsimp only at hSw); go_simp; try (with_reducible rfl))
          simp only [Act.put, List.setIfInBounds_toArray, List.set_cons_zero, List.set_cons_succ]
          refine takeW (i := 8) (v := ?_) rfl (by kernel_rfl) (by kernel_rfl) (by kernel_rfl) (fun _ _ _ h => h) (by rfl) ?_ (by assumption) ?_
          rotate_left
          focus (intro w hSw; (try dsimp only at hSw); go_simp; try (with_reducible rfl))
          simp only [Act.put, List.setIfInBounds_toArray, List.set_cons_zero, List.set_cons_succ]
          refine takeW (i := 3) (v := ?_) rfl (by kernel_rfl) (by kernel_rfl) (by kernel_rfl) (fun _ _ _ h => h) (by rfl) ?_ (by assumption) ?_
          rotate_left
          focus (intro w hSw; (try dsimp only at hSw); go_simp; try (with_reducible rfl))
          simp only [Act.put, List.setIfInBounds_toArray, List.set_cons_zero, List.set_cons_succ]
          refine takeW (i := 9) (v := ?_) rfl (by kernel_rfl) (by kernel_rfl) (by kernel_rfl) (fun _ _ _ h => h) (by rfl) ?_ (by assumption) ?_
          rotate_left
          focus (intro w hSw; (try dsimp only at hSw); go_simp; try (with_reducible rfl))
          simp only [Act.put, List.setIfInBounds_toArray, List.set_cons_zero, List.set_cons_succ]
          refine takeW (i := 4) (v := ?_) rfl (by kernel_rfl) (by kernel_rfl) (by kernel_rfl) (fun _ _ _ h => h) (by rfl) ?_ (by assumption) ?_
          rotate_left
          focus (intro w hSw; (try dsimp only at hSw); go_simp; try (with_reducible rfl))
          simp only [Act.put, List.setIfInBounds_toArray, List.set_cons_zero, List.set_cons_succ]
          refine takeW (i := 10) (v := ?_) rfl (by kernel_rfl) (by kernel_rfl) (by kernel_rfl) (fun _ _ _ h => h) (by rfl) ?_ (by assumption) ?_
          rotate_left
          focus (intro w hSw; (try dsimp only at hSw); go_simp; try (with_reducible rfl))
          simp only [Act.put, List.setIfInBounds_toArray, List.set_cons_zero, List.set_cons_succ]
          refine takeW (i := 5) (v := ?_) rfl (by kernel_rfl) (by kernel_rfl) (by kernel_rfl) (fun _ _ _ h => h) (by rfl) ?_ (by assumption) ?_
          rotate_left
          focus (intro w hSw; (try dsimp only at hSw); go_simp; try (with_reducible rfl))
          simp only [Act.put, List.setIfInBounds_toArray, List.set_cons_zero, List.set_cons_succ]
          refine takeW (i := 11) (v := ?_) rfl (by kernel_rfl) (by kernel_rfl) (by kernel_rfl) (fun _ _ _ h => h) (by rfl) ?_ (by assumption) ?_
          rotate_left
          focus (intro w hSw; (try dsimp only at hSw); go_simp; try (with_reducible rfl))
          simp only [Act.put, List.setIfInBounds_toArray, List.set_cons_zero, List.set_cons_succ]
          refine takeW (i := 6) (v := ?_) rfl (by kernel_rfl) (by kernel_rfl) (by kernel_rfl) (fun _ _ _ h => h) (by rfl) ?_ (by assumption) ?_
          rotate_left
          focus (intro w hSw; (try dsimp only at hSw); go_simp; try (with_reducible rfl))
          simp only [Act.put, List.setIfInBounds_toArray, List.set_cons_zero, List.set_cons_succ]
          refine takeW (i := 12) (v := ?_) rfl (by kernel_rfl) (by kernel_rfl) (by kernel_rfl) (fun _ _ _ h => h) (by rfl) ?_ (by assumption) ?_
          rotate_left
          focus (intro w hSw; (try dsimp only at hSw); go_simp; try (with_reducible rfl))
          simp only [Act.put, List.setIfInBounds_toArray, List.set_cons_zero, List.set_cons_succ]
          refine readyTwo (i := 0) (j := 13) (by kernel_rfl) rfl rfl (fun K hK => ?_) (fun K hK => ?_)
          · go_simp
            refine hK.out _ _ ?_ (fun hHeld => ?_)
            · assumption
            clear hK K
            refine readyOne (i := 13) (by kernel_rfl) rfl (fun K hK => ?_)
            go_simp
            refine (keepSU (fun w' : World => w'.cell? ⟨b, off + j * 3, none⟩ = some (.int .i64 y) ∧ w'.cell? ⟨b, off + k * 3, none⟩ = some (.int .i64 x) ∧ (∃ q : Ga.E, EBox w' (B + 1) q) ∧ EBox w' (w.heap.size) (0, 0) ∧ EBox w' (B) o2 ∧ Below w.heap.size w w') hkp.out (by assumption) (rsub_eq H2.out _) (by assumption)).mono ?_
            rintro e w4 ⟨rfl, kS, hu4⟩
            obtain ⟨d0, d1, _, _⟩ := hu4.facts
            refine hK.out _ _ kS (fun hHeld => ?_)
            clear hK K
            refine readyOne (i := 14) (by kernel_rfl) rfl (fun K hK => ?_)
            go_simp
            refine (keepS (fun w' : World => w'.cell? ⟨b, off + j * 3, none⟩ = some (.int .i64 y) ∧ w'.cell? ⟨b, off + k * 3, none⟩ = some (.int .i64 x) ∧ (∃ q : Ga.E, EBox w' (B + 1) q) ∧ EBox w' (w.heap.size) (0, 0) ∧ EBox w' (B) o2 ∧ Below w.heap.size w w') hkp.out (rmul_eq H3.out _) (by assumption)).mono ?_
            rintro e w5 ⟨rfl, kS⟩
            have kS' := kS
            obtain ⟨k0, k1, ⟨q0, hq0⟩, m0, m1, kb⟩ := kS'
            obtain ⟨e0, e1, f0, f1⟩ := hq0.facts
            refine hK.out _ _ kS (fun hHeld => ?_)
            clear hK K
            refine readyOne (i := 15) (by kernel_rfl) rfl (fun K hK => ?_)
            go_simp
            refine hK.out _ _ ?_ (fun hHeld => ?_)
            · exact ⟨(World.cell?_setCell_far _ _ _ _ (by first | (simp; done) | (simp; omega))).trans ((World.cell?_setCell_far _ _ _ _ (by first | (simp; done) | (simp; omega))).trans k0), (World.cell?_setCell_far _ _ _ _ (by first | (simp; done) | (simp; omega))).trans ((World.cell?_setCell_far _ _ _ _ (by first | (simp; done) | (simp; omega))).trans k1), ⟨u2, hq0.set u2.1 u2.2⟩, (m0.other _ 0 _ (by omega)).other _ 1 _ (by omega), (m1.other _ 0 _ (by omega)).other _ 1 _ (by omega), (kb.setCell (p := ⟨B + 1, 0, none⟩) (by first | (simp; done) | (simp; omega)) _).setCell (p := ⟨B + 1, 1, none⟩) (by first | (simp; done) | (simp; omega)) _⟩
            clear hK K
            refine wpAnyH_done (by kernel_rfl) ?_ _
            obtain ⟨_, _, _, hz5, ho5, hb5⟩ := hHeld
            go_wp2
            go_roundw
            case rel => exact ⟨j + 1, by go_num, by omega, by rw [HO.out]; exact ho5, by rw [HU2.out]; exact hq0.set u2.1 u2.2, hz5, hb5⟩
            case measure => simp [intOf]; omega
          · go_simp
            refine (keepSU (fun w' : World => w'.cell? ⟨b, off + j * 3, none⟩ = some (.int .i64 y) ∧ w'.cell? ⟨b, off + k * 3, none⟩ = some (.int .i64 x) ∧ (∃ q : Ga.E, EBox w' (B + 1) q) ∧ EBox w' (w.heap.size) (0, 0) ∧ EBox w' (B) o2 ∧ Below w.heap.size w w') hkp.out (by assumption) (rsub_eq H2.out _) (by assumption)).mono ?_
            rintro e w4 ⟨rfl, kS, hu4⟩
            obtain ⟨d0, d1, _, _⟩ := hu4.facts
            refine hK.out _ _ kS (fun hHeld => ?_)
            clear hK K
            refine readyOne (i := 0) (by kernel_rfl) rfl (fun K hK => ?_)
            go_simp
            refine hK.out _ _ ?_ (fun hHeld => ?_)
            · assumption
            clear hK K
            refine readyOne (i := 14) (by kernel_rfl) rfl (fun K hK => ?_)
            go_simp
            refine (keepS (fun w' : World => w'.cell? ⟨b, off + j * 3, none⟩ = some (.int .i64 y) ∧ w'.cell? ⟨b, off + k * 3, none⟩ = some (.int .i64 x) ∧ (∃ q : Ga.E, EBox w' (B + 1) q) ∧ EBox w' (w.heap.size) (0, 0) ∧ EBox w' (B) o2 ∧ Below w.heap.size w w') hkp.out (rmul_eq H3.out _) (by assumption)).mono ?_
            rintro e w5 ⟨rfl, kS⟩
            have kS' := kS
            obtain ⟨k0, k1, ⟨q0, hq0⟩, m0, m1, kb⟩ := kS'
            obtain ⟨e0, e1, f0, f1⟩ := hq0.facts
            refine hK.out _ _ kS (fun hHeld => ?_)
            clear hK K
            refine readyOne (i := 15) (by kernel_rfl) rfl (fun K hK => ?_)
            go_simp
            refine hK.out _ _ ?_ (fun hHeld => ?_)
            · exact ⟨(World.cell?_setCell_far _ _ _ _ (by first | (simp; done) | (simp; omega))).trans ((World.cell?_setCell_far _ _ _ _ (by first | (simp; done) | (simp; omega))).trans k0), (World.cell?_setCell_far _ _ _ _ (by first | (simp; done) | (simp; omega))).trans ((World.cell?_setCell_far _ _ _ _ (by first | (simp; done) | (simp; omega))).trans k1), ⟨u2, hq0.set u2.1 u2.2⟩, (m0.other _ 0 _ (by omega)).other _ 1 _ (by omega), (m1.other _ 0 _ (by omega)).other _ 1 _ (by omega), (kb.setCell (p := ⟨B + 1, 0, none⟩) (by first | (simp; done) | (simp; omega)) _).setCell (p := ⟨B + 1, 1, none⟩) (by first | (simp; done) | (simp; omega)) _⟩
            clear hK K
            refine wpAnyH_done (by kernel_rfl) ?_ _
            obtain ⟨_, _, _, hz5, ho5, hb5⟩ := hHeld
            go_wp2
            go_roundw
            case rel => exact ⟨j + 1, by go_num, by omega, by rw [HO.out]; exact ho5, by rw [HU2.out]; exact hq0.set u2.1 u2.2, hz5, hb5⟩
            case measure => simp [intOf]; omega
      · obtain rfl : j = l.length := by omega
        obtain ⟨o, ho1⟩ : ∃ z, Sr.overE (Sr.ids l) k l.length = z := ⟨_, rfl⟩
        obtain ⟨u, hu1⟩ : ∃ z, Sr.underE (Sr.ids l) k l.length = z := ⟨_, rfl⟩
        have hR := HW.out
        rw [ho1, hu1, Ga.inv_eq] at hR
        rw [ho1] at ho
        rw [hu1] at hu
        obtain ⟨⟨z, c⟩, hzc⟩ : ∃ zc, Ga.invR u = zc := ⟨_, rfl⟩
        rw [hzc] at hR
        have HR := Lib.hid hR.symm
        have HZ := Lib.hid hzc
        clear hR hzc ho1 hu1 HW
        obtain ⟨k20, k21, _, _⟩ := hu.facts
        go_wp2_with fail
        refine (rinv_eq HZ.out _).mono ?_
        rintro e w2 ⟨rfl, h2⟩
        have ho2 := (ho.kept h2).alloc (.cells #[.int .i64 z.1, .int .i64 z.2] 24)
        have hz2 := (hz.kept h2).alloc (.cells #[.int .i64 z.1, .int .i64 z.2] 24)
        have hb1 := hb.trans (h2.mono hb.size)
        have hb2 := hb1.alloc hb1.size (.cells #[.int .i64 z.1, .int .i64 z.2] 24)
        clear k20 k21 ho hu hz hb h2 hb1
        obtain ⟨k20, k21, _, _⟩ := ho2.facts
        go_wp2_with fail
        refine (rmul_eq HR.out _).mono ?_
        rintro e w3 ⟨rfl, h3⟩
        have hz3 := hz2.kept h3
        have hb3 := hb2.trans (h3.mono hb2.size)
        clear k20 k21 ho2 hz2 hb2 h3
        obtain ⟨y0, y1, f0, f1⟩ := hz3.facts
        go_wp2
        refine bodyPost_ret (v := .tuple #[elv R, .int .i64 0]) ?_ rfl ⟨rfl, ?_⟩
        · obtain ⟨d0, d1, _, _⟩ := (hz3.set R.1 R.2).facts
          simp [results, Try.f19, go_sem, d0, d1]
        · exact (hb3.setCell (p := ⟨w.heap.size, 0, none⟩) (by simp) _).setCell (p := ⟨w.heap.size, 1, none⟩) (by simp) _

set_option maxHeartbeats 8000000 in
set_option maxRecDepth 100000 in
theorem ropen_any (v : Value) (l : List Sr.Shr) (w : World) (hv : FlatAt w v 3 (shrs l)) (hlen : l.length ≤ 140737488351232) :
    Calls Try.prog 17 #[v] w fun e w' => e = .returned (.tuple #[elv (Sr.openE l).1, .int .i64 (Sr.openE l).2]) ∧ Below w.heap.size w w' := by
  have hap := Lib.hid (fun (W : World) (hb : Below w.heap.size w W) => rapart_any v l W (hv.below hb) hlen)
  have hwe := Lib.hid (fun (ha : Sr.apart (Sr.ids l) = true) (W : World) (hb : Below w.heap.size w W) (j : Nat) (hj : j < l.length) => (show Calls Try.prog 19 #[v, .int .i64 j] W fun e w' => e = .returned (.tuple #[elv (Sr.wtE (Sr.ids l) j), .int .i64 0]) ∧ Below W.heap.size W w' from by have := rweight_any v l j W (hv.below hb) hlen; rwa [weightE_good l j hj ha] at this))
  have hrow := Lib.hid (fun (w' : World) (hb : Below w.heap.size w w') (h0 : 0 < l.length) => shrs_row hv hb h0)
  obtain ⟨av, cv, rfl⟩ := hv.len (n := l.length) (shrs_len l) (by omega)
  have hb0 : Below w.heap.size w (w.alloc (.cells #[.int .i64 0, .int .i64 0] 24)) := (Below.refl _ _).alloc (Nat.le_refl _) _
  have hz0 := EBox.new w 0 0
  cases ha : Sr.apart (Sr.ids l) with
  | false =>
    rw [openE_bad l (.inr (.inl ha))]
    rw [ha] at hap
    clear hv ha
    go_enter Try.func17, Try.ntmps17
    go_wp2_with fail
    refine (hap.out _ hb0).mono ?_
    rintro e w1 ⟨rfl, h1⟩
    have hz1 := hz0.kept h1
    have hb1 := hb0.trans (h1.mono hb0.size)
    obtain ⟨z0, z1, f0, f1⟩ := hz1.facts
    go_wp2
    refine bodyPost_ret (v := .tuple #[elv ((0, 0) : Ga.E), .int .i64 1]) ?_ rfl ⟨rfl, ?_⟩
    · obtain ⟨d0, d1, _, _⟩ := (hz1.set ((0, 0) : Ga.E).1 ((0, 0) : Ga.E).2).facts
      simp [results, Try.f17, go_sem, d0, d1]
    · exact (hb1.setCell (p := ⟨w.heap.size, 0, none⟩) (by simp) _).setCell (p := ⟨w.heap.size, 1, none⟩) (by simp) _
  | true =>
    rw [ha] at hap
    by_cases h0 : l.length = 0
    · rw [openE_bad l (.inl (List.length_eq_zero_iff.1 h0))]
      have t1 : ((l.length : Int) == 0) = true := by rw [beq_iff_eq]; omega
      clear hv h0 ha hwe
      go_enter Try.func17, Try.ntmps17
      go_wp2_with fail
      refine (hap.out _ hb0).mono ?_
      rintro e w1 ⟨rfl, h1⟩
      have hz1 := hz0.kept h1
      have hb1 := hb0.trans (h1.mono hb0.size)
      obtain ⟨z0, z1, f0, f1⟩ := hz1.facts
      go_wp2
      refine bodyPost_ret (v := .tuple #[elv ((0, 0) : Ga.E), .int .i64 1]) ?_ rfl ⟨rfl, ?_⟩
      · obtain ⟨d0, d1, _, _⟩ := (hz1.set ((0, 0) : Ga.E).1 ((0, 0) : Ga.E).2).facts
        simp [results, Try.f17, go_sem, d0, d1]
      · exact (hb1.setCell (p := ⟨w.heap.size, 0, none⟩) (by simp) _).setCell (p := ⟨w.heap.size, 1, none⟩) (by simp) _
    have t1 : ((l.length : Int) == 0) = false := by rw [beq_eq_false_iff_ne]; omega
    have hne : l ≠ [] := fun e => h0 (by rw [e]; rfl)
    have hbad := Lib.hid (show l.all (fun s => Ga.ok s.2) = false → Sr.openE l = ((0, 0), 1) from fun h => openE_bad l (.inr (.inr h)))
    have hgood := Lib.hid (show l.all (fun s => Ga.ok s.2) = true → Sr.openE l = (Sr.sumE l l.length, 0) from fun h => openE_good l hne ha h)
    have hwt := Lib.hid (hwe.out ha)
    obtain ⟨R, hR⟩ : ∃ R, Sr.openE l = R := ⟨_, rfl⟩
    rw [hR] at hbad hgood ⊢
    have HT := Lib.hid (alls_take l)
    have HSUM := Lib.hid (show ∀ k (h : k < l.length), Sr.sumE l (k + 1) = Ga.add (Sr.sumE l k) (Ga.mul l[k].2 (Sr.wtE (Sr.ids l) k)) from fun k h => by rw [Sr.sumE, Sr.getD_at _ _ h])
    clear hv ha hR hne h0 hwe
    go_enter Try.func17, Try.ntmps17
    go_wp2_with fail
    refine (hap.out _ hb0).mono ?_
    rintro e w1 ⟨rfl, h1⟩
    have hz1 := hz0.kept h1
    have hb1 := hb0.trans (h1.mono hb0.size)
    clear h1 hz0 hb0
    obtain ⟨B, hB⟩ : ∃ B, w1.heap.size = B := ⟨_, rfl⟩
    have hBl : w.heap.size < B := by rw [← hB]; exact hz1.lt
    have hs1 := EBox.new w1 0 0
    rw [hB] at hs1
    have hz2 := hz1.alloc (.cells #[.int .i64 0, .int .i64 0] 24)
    have hb2 := hb1.alloc hb1.size (.cells #[.int .i64 0, .int .i64 0] 24)
    clear hz1 hb1
    go_wp2_with fail
    clear hB
    go_loopw [6] (fun i wr => ∃ k : Nat, i = .int .i64 k ∧ k ≤ l.length ∧ (l.take k).all (fun s => Ga.ok s.2) = true ∧ EBox wr w.heap.size (0, 0) ∧ EBox wr B (Sr.sumE l k) ∧ Below w.heap.size w wr) (fun i _ => l.length - (intOf i).toNat)
    case atStart => exact ⟨0, rfl, by omega, rfl, hz2, hs1, hb2⟩
    case round =>
      clear hz2 hs1 hb2
      obtain ⟨k, rfl, hk, hall, hz, hs, hb⟩ := hrel
      have HALL := Lib.hid hall
      clear hall
      by_cases hlt : k < l.length
      · obtain ⟨b, off, cap, hv, hblt, hc⟩ := hrow.out _ hb (by omega)
        injection hv with e1 _ e2
        subst e1 e2
        obtain ⟨_, c1, c2⟩ := hc k hlt
        have hn := HT.out k hlt
        rw [HALL.out, Bool.true_and] at hn
        have hsum := HSUM.out k hlt
        have hwk := Lib.hid (fun (W : World) (hb : Below w.heap.size w W) => hwt.out W hb k hlt)
        obtain ⟨c, hck⟩ : ∃ c, l[k].2 = c := ⟨_, rfl⟩
        rw [hck] at c1 c2 hn hsum
        have HM' := Lib.hid (show ∃ s ∈ l, s.2 = c from ⟨l[k], List.getElem_mem hlt, hck⟩)
        have ti : (k : Int) < (l.length : Int) := by omega
        clear hc hck hrow
        cases hok : Ga.ok c with
        | false =>
          have hr : R = ((0, 0), 1) := hbad.out (by rw [List.all_eq_false]; obtain ⟨s, h1, h2⟩ := HM'.out; exact ⟨s, h1, by rw [h2, hok]; simp⟩)
          subst hr
          have HK := Lib.hid hok
          clear hok hn hsum hgood hbad
          go_wp2_with fail
          refine (r_may HK.out _).mono ?_
          rintro e w2 ⟨rfl, h2⟩
          have hz2 := hz.kept h2
          have hb2 := hb.trans (h2.mono hb.size)
          obtain ⟨z0, z1, f0, f1⟩ := hz2.facts
          clear hz hs hb h2
          go_wp2
          refine bodyPost_ret (v := .tuple #[elv ((0, 0) : Ga.E), .int .i64 1]) ?_ rfl ⟨rfl, ?_⟩
          · obtain ⟨d0, d1, _, _⟩ := (hz2.set ((0, 0) : Ga.E).1 ((0, 0) : Ga.E).2).facts
            simp [results, Try.f17, go_sem, d0, d1]
          · exact (hb2.setCell (p := ⟨w.heap.size, 0, none⟩) (by simp) _).setCell (p := ⟨w.heap.size, 1, none⟩) (by simp) _
        | true =>
          have HK := Lib.hid hok
          have HN := Lib.hid (hn.trans hok)
          obtain ⟨u1, hu1⟩ : ∃ z, Sr.sumE l k = z := ⟨_, rfl⟩
          obtain ⟨x, hx⟩ : ∃ z, Sr.wtE (Sr.ids l) k = z := ⟨_, rfl⟩
          rw [hu1] at hs
          rw [hu1, hx] at hsum
          rw [hx] at hwk
          obtain ⟨m, hm⟩ : ∃ z, Ga.mul c x = z := ⟨_, rfl⟩
          obtain ⟨u2, hu2⟩ : ∃ z, Ga.add u1 m = z := ⟨_, rfl⟩
          rw [hm, hu2] at hsum
          have HS2 := Lib.hid hsum
          have H1 := Lib.hid hm
          have H2 := Lib.hid hu2
          clear hok hn hsum hx hm hu2 hu1 hwt
          go_wp2_with fail
          refine (r_may HK.out _).mono ?_
          rintro e w2 ⟨rfl, h2⟩
          have hz2 := hz.kept h2
          have hs2 := hs.kept h2
          have hb2 := hb.trans (h2.mono hb.size)
          have v1 := below_cell h2 c1
          have v2 := below_cell h2 c2
          clear hz hs hb h2 c1 c2
          go_wp2_with fail
          refine (hwk.out _ hb2).mono ?_
          rintro e w3 ⟨rfl, h3⟩
          obtain ⟨wr3, hwr3⟩ : ∃ n, w3.heap.size = n := ⟨_, rfl⟩
          have hn4 := EBox.new w3 x.1 x.2
          rw [hwr3] at hn4
          have hz4 := (hz2.kept h3).alloc (.cells #[.int .i64 x.1, .int .i64 x.2] 24)
          have hs4 := (hs2.kept h3).alloc (.cells #[.int .i64 x.1, .int .i64 x.2] 24)
          have hb3 := hb2.trans (h3.mono hb2.size)
          have hb4 := hb3.alloc hb3.size (.cells #[.int .i64 x.1, .int .i64 x.2] 24)
          have gb := (Below.refl w3.heap.size w3).alloc (Nat.le_refl _) (.cells #[.int .i64 x.1, .int .i64 x.2] 24)
          have v3 := below_cell gb (below_cell h3 v1)
          have v4 := below_cell gb (below_cell h3 v2)
          have hlo : B < wr3 := by have := (hs2.kept h3).lt; omega
          clear hz2 hs2 hb2 v1 v2 h3 hb3 gb
          go_wp2_with fail
          clear hwr3
          generalize w3.alloc (.cells #[.int .i64 x.1, .int .i64 x.2] 24) = w4 at *
          obtain ⟨n0, n1, _, _⟩ := hn4.facts
          obtain ⟨d0, d1, _, _⟩ := hs4.facts
          have hud : EBox w4.drew B u1 := hs4
          have hS0 : (fun w' : World => w'.cell? ⟨b, off + k * 3 + 1, none⟩ = some (.int .i64 c.1) ∧ w'.cell? ⟨b, off + k * 3 + 1 + 1, none⟩ = some (.int .i64 c.2) ∧ w'.cell? ⟨wr3, 0, none⟩ = some (.int .i64 x.1) ∧ w'.cell? ⟨wr3, 1, none⟩ = some (.int .i64 x.2) ∧ (∃ q : Ga.E, EBox w' (B) q) ∧ EBox w' (w.heap.size) (0, 0) ∧ Below w.heap.size w w') w4 := ⟨v3, v4, n0, n1, ⟨u1, hs4⟩, hz4, hb4⟩
          have hkp := Lib.hid (show ∀ A1 A2 : World, (fun w' : World => w'.cell? ⟨b, off + k * 3 + 1, none⟩ = some (.int .i64 c.1) ∧ w'.cell? ⟨b, off + k * 3 + 1 + 1, none⟩ = some (.int .i64 c.2) ∧ w'.cell? ⟨wr3, 0, none⟩ = some (.int .i64 x.1) ∧ w'.cell? ⟨wr3, 1, none⟩ = some (.int .i64 x.2) ∧ (∃ q : Ga.E, EBox w' (B) q) ∧ EBox w' (w.heap.size) (0, 0) ∧ Below w.heap.size w w') A1 → Below A1.heap.size A1 A2 → (fun w' : World => w'.cell? ⟨b, off + k * 3 + 1, none⟩ = some (.int .i64 c.1) ∧ w'.cell? ⟨b, off + k * 3 + 1 + 1, none⟩ = some (.int .i64 c.2) ∧ w'.cell? ⟨wr3, 0, none⟩ = some (.int .i64 x.1) ∧ w'.cell? ⟨wr3, 1, none⟩ = some (.int .i64 x.2) ∧ (∃ q : Ga.E, EBox w' (B) q) ∧ EBox w' (w.heap.size) (0, 0) ∧ Below w.heap.size w w') A2 from fun A1 A2 ⟨k0, k1, k2, k3, ⟨q, kq⟩, m0, kb⟩ h => ⟨below_cell h k0, below_cell h k1, below_cell h k2, below_cell h k3, ⟨q, kq.kept h⟩, m0.kept h, kb.trans (h.mono kb.size)⟩)
          clear hz4 hb4 hn4 hs4
          refine wp_region_held_drew (S := (fun w' : World => w'.cell? ⟨b, off + k * 3 + 1, none⟩ = some (.int .i64 c.1) ∧ w'.cell? ⟨b, off + k * 3 + 1 + 1, none⟩ = some (.int .i64 c.2) ∧ w'.cell? ⟨wr3, 0, none⟩ = some (.int .i64 x.1) ∧ w'.cell? ⟨wr3, 1, none⟩ = some (.int .i64 x.2) ∧ (∃ q : Ga.E, EBox w' (B) q) ∧ EBox w' (w.heap.size) (0, 0) ∧ Below w.heap.size w w')) (by kernel_rfl) ?_ (fun hHeld => ?_)
          · exact hkp.out _ _ hS0 (Below.drew (Below.refl _ _))
          refine takeW (i := 1) (v := ?_) rfl (by kernel_rfl) (by kernel_rfl) (by kernel_rfl) (fun _ _ _ h => h) (by rfl) ?_ (by assumption) ?_
          rotate_left
          focus (intro w hSw; (try dsimp only at hSw); go_simp; try (with_reducible rfl))
          simp only [Act.put, List.setIfInBounds_toArray, List.set_cons_zero, List.set_cons_succ]
          refine takeW (i := 2) (v := ?_) rfl (by kernel_rfl) (by kernel_rfl) (by kernel_rfl) (fun _ _ _ h => h) (by rfl) ?_ (by assumption) ?_
          rotate_left
          focus (intro w hSw; (try dsimp only at hSw); go_simp; try (with_reducible rfl))
          simp only [Act.put, List.setIfInBounds_toArray, List.set_cons_zero, List.set_cons_succ]
          refine takeW (i := 6) (v := ?_) rfl (by kernel_rfl) (by kernel_rfl) (by kernel_rfl) (fun _ _ _ h => h) (by rfl) ?_ (by assumption) ?_
          rotate_left
          focus (intro w hSw; (try dsimp only at hSw); go_simp; try (with_reducible rfl))
          simp only [Act.put, List.setIfInBounds_toArray, List.set_cons_zero, List.set_cons_succ]
          refine takeW (i := 3) (v := ?_) rfl (by kernel_rfl) (by kernel_rfl) (by kernel_rfl) (fun _ _ _ h => h) (by rfl) ?_ (by assumption) ?_
          rotate_left
          focus (intro w hSw; (try dsimp only at hSw); go_simp; try (with_reducible rfl))
          simp only [Act.put, List.setIfInBounds_toArray, List.set_cons_zero, List.set_cons_succ]
          refine takeW (i := 4) (v := ?_) rfl (by kernel_rfl) (by kernel_rfl) (by kernel_rfl) (fun _ _ _ h => h) (by rfl) ?_ (by assumption) ?_
          rotate_left
          focus (intro w hSw; (try dsimp only at hSw); go_simp; try (with_reducible rfl))
          simp only [Act.put, List.setIfInBounds_toArray, List.set_cons_zero, List.set_cons_succ]
          refine takeW (i := 5) (v := ?_) rfl (by kernel_rfl) (by kernel_rfl) (by kernel_rfl) (fun _ _ _ h => h) (by rfl) ?_ (by assumption) ?_
          rotate_left
          focus (intro w hSw; (try dsimp only at hSw); go_simp; try (with_reducible rfl))
          simp only [Act.put, List.setIfInBounds_toArray, List.set_cons_zero, List.set_cons_succ]
          refine readyTwo (i := 0) (j := 7) (by kernel_rfl) rfl rfl (fun K hK => ?_) (fun K hK => ?_)
          · go_simp
            refine hK.out _ _ ?_ (fun hHeld => ?_)
            · assumption
            clear hK K
            refine readyOne (i := 7) (by kernel_rfl) rfl (fun K hK => ?_)
            go_simp
            refine (keepSU (fun w' : World => w'.cell? ⟨b, off + k * 3 + 1, none⟩ = some (.int .i64 c.1) ∧ w'.cell? ⟨b, off + k * 3 + 1 + 1, none⟩ = some (.int .i64 c.2) ∧ w'.cell? ⟨wr3, 0, none⟩ = some (.int .i64 x.1) ∧ w'.cell? ⟨wr3, 1, none⟩ = some (.int .i64 x.2) ∧ (∃ q : Ga.E, EBox w' (B) q) ∧ EBox w' (w.heap.size) (0, 0) ∧ Below w.heap.size w w') hkp.out (by assumption) (rmul_eq H1.out _) (by assumption)).mono ?_
            rintro e w4 ⟨rfl, kS, hu4⟩
            obtain ⟨d0, d1, _, _⟩ := hu4.facts
            refine hK.out _ _ kS (fun hHeld => ?_)
            clear hK K
            refine readyOne (i := 8) (by kernel_rfl) rfl (fun K hK => ?_)
            go_simp
            refine (keepS (fun w' : World => w'.cell? ⟨b, off + k * 3 + 1, none⟩ = some (.int .i64 c.1) ∧ w'.cell? ⟨b, off + k * 3 + 1 + 1, none⟩ = some (.int .i64 c.2) ∧ w'.cell? ⟨wr3, 0, none⟩ = some (.int .i64 x.1) ∧ w'.cell? ⟨wr3, 1, none⟩ = some (.int .i64 x.2) ∧ (∃ q : Ga.E, EBox w' (B) q) ∧ EBox w' (w.heap.size) (0, 0) ∧ Below w.heap.size w w') hkp.out (radd_eq H2.out _) (by assumption)).mono ?_
            rintro e w5 ⟨rfl, kS⟩
            have kS' := kS
            obtain ⟨k0, k1, k2, k3, ⟨q0, hq0⟩, m0, kb⟩ := kS'
            obtain ⟨e0, e1, f0, f1⟩ := hq0.facts
            refine hK.out _ _ kS (fun hHeld => ?_)
            clear hK K
            refine readyOne (i := 9) (by kernel_rfl) rfl (fun K hK => ?_)
            go_simp
            refine hK.out _ _ ?_ (fun hHeld => ?_)
            · exact ⟨(World.cell?_setCell_far _ _ _ _ (by first | (simp; done) | (simp; omega))).trans ((World.cell?_setCell_far _ _ _ _ (by first | (simp; done) | (simp; omega))).trans k0), (World.cell?_setCell_far _ _ _ _ (by first | (simp; done) | (simp; omega))).trans ((World.cell?_setCell_far _ _ _ _ (by first | (simp; done) | (simp; omega))).trans k1), (World.cell?_setCell_far _ _ _ _ (by first | (simp; done) | (simp; omega))).trans ((World.cell?_setCell_far _ _ _ _ (by first | (simp; done) | (simp; omega))).trans k2), (World.cell?_setCell_far _ _ _ _ (by first | (simp; done) | (simp; omega))).trans ((World.cell?_setCell_far _ _ _ _ (by first | (simp; done) | (simp; omega))).trans k3), ⟨u2, hq0.set u2.1 u2.2⟩, (m0.other _ 0 _ (by omega)).other _ 1 _ (by omega), (kb.setCell (p := ⟨B, 0, none⟩) (by first | (simp; done) | (simp; omega)) _).setCell (p := ⟨B, 1, none⟩) (by first | (simp; done) | (simp; omega)) _⟩
            clear hK K
            refine wpAnyH_done (by kernel_rfl) ?_ _
            obtain ⟨_, _, _, _, _, hz5, hb5⟩ := hHeld
            go_wp2
            go_roundw
            case rel => exact ⟨k + 1, by go_num, by omega, HN.out, hz5, by rw [HS2.out]; exact hq0.set u2.1 u2.2, hb5⟩
            case measure => simp [intOf]; omega
          · go_simp
            refine (keepSU (fun w' : World => w'.cell? ⟨b, off + k * 3 + 1, none⟩ = some (.int .i64 c.1) ∧ w'.cell? ⟨b, off + k * 3 + 1 + 1, none⟩ = some (.int .i64 c.2) ∧ w'.cell? ⟨wr3, 0, none⟩ = some (.int .i64 x.1) ∧ w'.cell? ⟨wr3, 1, none⟩ = some (.int .i64 x.2) ∧ (∃ q : Ga.E, EBox w' (B) q) ∧ EBox w' (w.heap.size) (0, 0) ∧ Below w.heap.size w w') hkp.out (by assumption) (rmul_eq H1.out _) (by assumption)).mono ?_
            rintro e w4 ⟨rfl, kS, hu4⟩
            obtain ⟨d0, d1, _, _⟩ := hu4.facts
            refine hK.out _ _ kS (fun hHeld => ?_)
            clear hK K
            refine readyOne (i := 0) (by kernel_rfl) rfl (fun K hK => ?_)
            go_simp
            refine hK.out _ _ ?_ (fun hHeld => ?_)
            · assumption
            clear hK K
            refine readyOne (i := 8) (by kernel_rfl) rfl (fun K hK => ?_)
            go_simp
            refine (keepS (fun w' : World => w'.cell? ⟨b, off + k * 3 + 1, none⟩ = some (.int .i64 c.1) ∧ w'.cell? ⟨b, off + k * 3 + 1 + 1, none⟩ = some (.int .i64 c.2) ∧ w'.cell? ⟨wr3, 0, none⟩ = some (.int .i64 x.1) ∧ w'.cell? ⟨wr3, 1, none⟩ = some (.int .i64 x.2) ∧ (∃ q : Ga.E, EBox w' (B) q) ∧ EBox w' (w.heap.size) (0, 0) ∧ Below w.heap.size w w') hkp.out (radd_eq H2.out _) (by assumption)).mono ?_
            rintro e w5 ⟨rfl, kS⟩
            have kS' := kS
            obtain ⟨k0, k1, k2, k3, ⟨q0, hq0⟩, m0, kb⟩ := kS'
            obtain ⟨e0, e1, f0, f1⟩ := hq0.facts
            refine hK.out _ _ kS (fun hHeld => ?_)
            clear hK K
            refine readyOne (i := 9) (by kernel_rfl) rfl (fun K hK => ?_)
            go_simp
            refine hK.out _ _ ?_ (fun hHeld => ?_)
            · exact ⟨(World.cell?_setCell_far _ _ _ _ (by first | (simp; done) | (simp; omega))).trans ((World.cell?_setCell_far _ _ _ _ (by first | (simp; done) | (simp; omega))).trans k0), (World.cell?_setCell_far _ _ _ _ (by first | (simp; done) | (simp; omega))).trans ((World.cell?_setCell_far _ _ _ _ (by first | (simp; done) | (simp; omega))).trans k1), (World.cell?_setCell_far _ _ _ _ (by first | (simp; done) | (simp; omega))).trans ((World.cell?_setCell_far _ _ _ _ (by first | (simp; done) | (simp; omega))).trans k2), (World.cell?_setCell_far _ _ _ _ (by first | (simp; done) | (simp; omega))).trans ((World.cell?_setCell_far _ _ _ _ (by first | (simp; done) | (simp; omega))).trans k3), ⟨u2, hq0.set u2.1 u2.2⟩, (m0.other _ 0 _ (by omega)).other _ 1 _ (by omega), (kb.setCell (p := ⟨B, 0, none⟩) (by first | (simp; done) | (simp; omega)) _).setCell (p := ⟨B, 1, none⟩) (by first | (simp; done) | (simp; omega)) _⟩
            clear hK K
            refine wpAnyH_done (by kernel_rfl) ?_ _
            obtain ⟨_, _, _, _, _, hz5, hb5⟩ := hHeld
            go_wp2
            go_roundw
            case rel => exact ⟨k + 1, by go_num, by omega, HN.out, hz5, by rw [HS2.out]; exact hq0.set u2.1 u2.2, hb5⟩
            case measure => simp [intOf]; omega
      · obtain rfl : k = l.length := by omega
        have hr := hgood.out (by have := HALL.out; rwa [List.take_length] at this)
        obtain ⟨s, hse⟩ : ∃ s, Sr.sumE l l.length = s := ⟨_, rfl⟩
        rw [hse] at hr hs
        subst hr
        clear hgood hbad hse
        obtain ⟨d0, d1, _, _⟩ := hs.facts
        obtain ⟨z0, z1, f0, f1⟩ := hz.facts
        go_wp2
        refine bodyPost_ret (v := .tuple #[elv s, .int .i64 0]) ?_ rfl ⟨rfl, ?_⟩
        · obtain ⟨d0, d1, _, _⟩ := (hz.set s.1 s.2).facts
          simp [results, Try.f17, go_sem, d0, d1]
        · exact (hb.setCell (p := ⟨w.heap.size, 0, none⟩) (by simp) _).setCell (p := ⟨w.heap.size, 1, none⟩) (by simp) _
end Go.Proofs.Ytngmkokmomficaa
