/- The weight of a share: the program's. (Written by gen-shweigh.py.) -/
import Derived.Test.YtngmkokmomficaaShApart
namespace Go.Proofs.Ytngmkokmomficaa
open Go.RowKit
attribute [local go_sem] build_el build_el0 build_el1

/-- A call keeps whatever abides growth, and a box. -/
theorem keepSU {F : Nat} {args : Array Value} {r : Value} {w : World} (S : World → Prop) (hk : ∀ a b, S a → Below a.heap.size a b → S b) {B : Nat} {x : Ga.E} (hu : EBox w B x) (hc : Calls Try.prog F args w fun e w' => e = .returned r ∧ Below w.heap.size w w') (h : S w) :
    Calls Try.prog F args w fun e w' => e = .returned r ∧ S w' ∧ EBox w' B x :=
  hc.mono fun _ _ ⟨he, hb⟩ => ⟨he, hk _ _ h hb, hu.kept hb⟩
set_option maxHeartbeats 8000000 in
set_option maxRecDepth 100000 in
theorem pweigh_any (v : Value) (l : List Sr.Shr) (k : Nat) (w : World) (hv : FlatAt w v 3 (shrs l)) (hlen : l.length ≤ 140737488351232) (hk : k < l.length) :
    Calls Try.prog 32 #[v, .int .i64 k] w fun e w' => e = .returned (elv (Sr.wtE (Sr.ids l) k)) ∧ Below w.heap.size w w' := by
  have hrow := Lib.hid (fun (w' : World) (hb : Below w.heap.size w w') => shrs_row hv hb (by omega))
  obtain ⟨b, off, cap, rfl, hblt, hc⟩ := shrs_row hv (Below.refl _ w) (by omega)
  have HRR := Lib.hid (fun (w' : World) (hb : Below w.heap.size w w') (j : Nat) (hj : j < l.length) => below_cell hb (hc j hj).1)
  obtain ⟨c0, _, _⟩ := hc k hk
  have HK := Lib.hid (show ∀ j (h : j < l.length), (Sr.ids l).getD j 0 = l[j].1 from fun j h => by rw [Sr.getD_at _ _ (by rw [Sr.ids_len]; exact h)]; simp [Sr.ids])
  obtain ⟨x, hx⟩ : ∃ x, l[k].1 = x := ⟨_, rfl⟩
  rw [hx] at c0
  have HKX := Lib.hid ((HK.out k hk).trans hx)
  have HW := Lib.hid (show Sr.wtE (Sr.ids l) k = Ga.mul (Sr.overE (Sr.ids l) k l.length) (Ga.inv (Sr.underE (Sr.ids l) k l.length)).1 by rw [Sr.wtE, Sr.ids_len])
  have HOK := Lib.hid (fun j => Sr.ok_underE (Sr.ids l) k j)
  obtain ⟨R, hR⟩ : ∃ R, Sr.wtE (Sr.ids l) k = R := ⟨_, rfl⟩
  rw [hR] at HW ⊢
  have tk : (k : Int) < (l.length : Int) := by omega
  clear hx hR hc hv hrow
  have q1 : b < w.heap.size + 1 := by omega
  have q2 : b < w.heap.size + 1 + 1 := by omega
  go_enter Try.func32, Try.ntmps32
  go_wp2_with fail
  have z0 := (((EBox.new w 0 0).alloc (.cells #[.int .i64 1, .int .i64 0] 24)).alloc (.cells #[.int .i64 1, .int .i64 0] 24)).alloc (.cells #[.int .i64 x, .int .i64 0] 24)
  have z1 := ((EBox.new (w.alloc (.cells #[.int .i64 0, .int .i64 0] 24)) 1 0).alloc (.cells #[.int .i64 1, .int .i64 0] 24)).alloc (.cells #[.int .i64 x, .int .i64 0] 24)
  have z2 := (EBox.new ((w.alloc (.cells #[.int .i64 0, .int .i64 0] 24)).alloc (.cells #[.int .i64 1, .int .i64 0] 24)) 1 0).alloc (.cells #[.int .i64 x, .int .i64 0] 24)
  have z3 := EBox.new (((w.alloc (.cells #[.int .i64 0, .int .i64 0] 24)).alloc (.cells #[.int .i64 1, .int .i64 0] 24)).alloc (.cells #[.int .i64 1, .int .i64 0] 24)) x 0
  have zb : Below w.heap.size w ((((w.alloc (.cells #[.int .i64 0, .int .i64 0] 24)).alloc (.cells #[.int .i64 1, .int .i64 0] 24)).alloc (.cells #[.int .i64 1, .int .i64 0] 24)).alloc (.cells #[.int .i64 x, .int .i64 0] 24)) := by
    refine Below.alloc (Below.alloc (Below.alloc (Below.alloc (Below.refl _ _) ?_ _) ?_ _) ?_ _) ?_ _ <;> (first | exact Nat.le_refl _ | (simp only [World.size_alloc]; omega))
  simp only [World.size_alloc] at z1 z2 z3
  go_loopw [22] (fun i wr => ∃ j : Nat, i = .int .i64 j ∧ j ≤ l.length ∧ EBox wr (w.heap.size + 1) (Sr.overE (Sr.ids l) k j) ∧ EBox wr (w.heap.size + 1 + 1) (Sr.underE (Sr.ids l) k j) ∧ EBox wr (w.heap.size + 1 + 1 + 1) (x, 0) ∧ EBox wr w.heap.size (0, 0) ∧ Below w.heap.size w wr) (fun i _ => l.length - (intOf i).toNat)
  case atStart => exact ⟨0, rfl, by omega, z1, z2, z3, z0, zb⟩
  case round =>
    clear z0 z1 z2 z3 zb
    obtain ⟨j, rfl, hj, ha, hu, ho, hy, hb⟩ := hrel
    by_cases hlt : j < l.length
    · have tj : (j : Int) < (l.length : Int) := by omega
      by_cases hjk : j = k
      · have t1 : ((j : Int) == (k : Int)) = true := by rw [beq_iff_eq]; omega
        have e1 : Sr.overE (Sr.ids l) k (j + 1) = Sr.overE (Sr.ids l) k j := by rw [Sr.overE, if_pos hjk]
        have e2 : Sr.underE (Sr.ids l) k (j + 1) = Sr.underE (Sr.ids l) k j := by rw [Sr.underE, if_pos hjk]
        have X1 := Lib.hid e1
        have X2 := Lib.hid e2
        clear e1 e2 hjk
        go_wp2
        go_roundw
        case rel => exact ⟨j + 1, by go_num, by omega, by rw [X1.out]; exact ha, by rw [X2.out]; exact hu, ho, hy, hb⟩
        case measure => simp [intOf]; omega
      · have t1 : ((j : Int) == (k : Int)) = false := by rw [beq_eq_false_iff_ne]; omega
        have e1 : Sr.overE (Sr.ids l) k (j + 1) = Ga.mul (Sr.overE (Sr.ids l) k j) (l[j].1, 0) := by rw [Sr.overE, if_neg hjk, HK.out j hlt]
        have e2 : Sr.underE (Sr.ids l) k (j + 1) = Ga.mul (Sr.underE (Sr.ids l) k j) (Ga.sub (l[j].1, 0) (x, 0)) := by rw [Sr.underE, if_neg hjk, HK.out j hlt, HKX.out]
        have cy := HRR.out wr hb j hlt
        obtain ⟨y, hyj⟩ : ∃ y, l[j].1 = y := ⟨_, rfl⟩
        rw [hyj] at e1 e2 cy
        obtain ⟨o1, ho1⟩ : ∃ z, Sr.overE (Sr.ids l) k j = z := ⟨_, rfl⟩
        obtain ⟨u1, hu1⟩ : ∃ z, Sr.underE (Sr.ids l) k j = z := ⟨_, rfl⟩
        rw [ho1] at e1 ha
        rw [hu1] at e2 hu
        obtain ⟨o2, ho2⟩ : ∃ z, Ga.mul o1 (y, 0) = z := ⟨_, rfl⟩
        obtain ⟨s2, hs2⟩ : ∃ z, Ga.sub (y, 0) (x, 0) = z := ⟨_, rfl⟩
        obtain ⟨u2, hu2⟩ : ∃ z, Ga.mul u1 s2 = z := ⟨_, rfl⟩
        rw [ho2] at e1
        rw [hs2, hu2] at e2
        have HO := Lib.hid e1
        have HU2 := Lib.hid e2
        have H1 := Lib.hid ho2
        have H2 := Lib.hid hs2
        have H3 := Lib.hid hu2
        obtain ⟨k10, k11, f10, f11⟩ := (ha.alloc (.cells #[.int .i64 y, .int .i64 0] 24)).facts
        have hn := EBox.new wr y 0
        clear e1 e2 ho1 hu1 ho2 hs2 hu2 hjk hyj
        go_wp2_with fail
        refine (pmul_eq H1.out _).mono ?_
        rintro e w2 ⟨rfl, h2⟩
        have ha2 := (ha.alloc (.cells #[.int .i64 y, .int .i64 0] 24)).kept h2
        have hu2 := (hu.alloc (.cells #[.int .i64 y, .int .i64 0] 24)).kept h2
        have ho2 := (ho.alloc (.cells #[.int .i64 y, .int .i64 0] 24)).kept h2
        have hy2 := (hy.alloc (.cells #[.int .i64 y, .int .i64 0] 24)).kept h2
        have hn2 := hn.kept h2
        have hb2 := (hb.alloc hb.size (.cells #[.int .i64 y, .int .i64 0] 24)).trans (h2.mono (by have := hb.size; simp; omega))
        have hlo : w.heap.size + 4 ≤ wr.heap.size := by have := ho.lt; omega
        clear k10 k11 f10 f11 ha hu ho hy hn hb h2 cy
        obtain ⟨k10, k11, f10, f11⟩ := ha2.facts
        have ha3 := ha2.set o2.1 o2.2
        have hu3 := (hu2.other (w.heap.size + 1) 0 (.int .i64 o2.1) (by omega)).other (w.heap.size + 1) 1 (.int .i64 o2.2) (by omega)
        have ho3 := (ho2.other (w.heap.size + 1) 0 (.int .i64 o2.1) (by omega)).other (w.heap.size + 1) 1 (.int .i64 o2.2) (by omega)
        have hy3 := (hy2.other (w.heap.size + 1) 0 (.int .i64 o2.1) (by omega)).other (w.heap.size + 1) 1 (.int .i64 o2.2) (by omega)
        have hn3 := (hn2.other (w.heap.size + 1) 0 (.int .i64 o2.1) (by omega)).other (w.heap.size + 1) 1 (.int .i64 o2.2) (by omega)
        have hb3 := (hb2.setCell (p := ⟨w.heap.size + 1, 0, none⟩) (by simp) (.int .i64 o2.1)).setCell (p := ⟨w.heap.size + 1, 1, none⟩) (by simp) (.int .i64 o2.2)
        clear ha2 hu2 ho2 hy2 hn2 hb2
        go_wp2_with fail
        clear k10 k11 f10 f11
        generalize (w2.setCell ⟨w.heap.size + 1, 0, none⟩ (.int .i64 o2.1)).setCell ⟨w.heap.size + 1, 1, none⟩ (.int .i64 o2.2) = w3 at *
        obtain ⟨k0, k1, _, _⟩ := hn3.facts
        obtain ⟨k2, k3, _, _⟩ := ho3.facts
        obtain ⟨d0, d1, _, _⟩ := hu3.facts
        have hS0 : (fun w' : World => w'.cell? ⟨wr.heap.size, 0, none⟩ = some (.int .i64 y) ∧ w'.cell? ⟨wr.heap.size, 1, none⟩ = some (.int .i64 0) ∧ w'.cell? ⟨w.heap.size + 1 + 1 + 1, 0, none⟩ = some (.int .i64 x) ∧ w'.cell? ⟨w.heap.size + 1 + 1 + 1, 1, none⟩ = some (.int .i64 0) ∧ (∃ q : Ga.E, EBox w' (w.heap.size + 1 + 1) q) ∧ EBox w' w.heap.size (0, 0) ∧ EBox w' (w.heap.size + 1) o2 ∧ EBox w' (w.heap.size + 1 + 1 + 1) (x, 0) ∧ Below w.heap.size w w') w3 := ⟨k0, k1, k2, k3, ⟨u1, hu3⟩, hy3, ha3, ho3, hb3⟩
        have hkp := Lib.hid (show ∀ A1 A2 : World, (fun w' : World => w'.cell? ⟨wr.heap.size, 0, none⟩ = some (.int .i64 y) ∧ w'.cell? ⟨wr.heap.size, 1, none⟩ = some (.int .i64 0) ∧ w'.cell? ⟨w.heap.size + 1 + 1 + 1, 0, none⟩ = some (.int .i64 x) ∧ w'.cell? ⟨w.heap.size + 1 + 1 + 1, 1, none⟩ = some (.int .i64 0) ∧ (∃ q : Ga.E, EBox w' (w.heap.size + 1 + 1) q) ∧ EBox w' w.heap.size (0, 0) ∧ EBox w' (w.heap.size + 1) o2 ∧ EBox w' (w.heap.size + 1 + 1 + 1) (x, 0) ∧ Below w.heap.size w w') A1 → Below A1.heap.size A1 A2 → (fun w' : World => w'.cell? ⟨wr.heap.size, 0, none⟩ = some (.int .i64 y) ∧ w'.cell? ⟨wr.heap.size, 1, none⟩ = some (.int .i64 0) ∧ w'.cell? ⟨w.heap.size + 1 + 1 + 1, 0, none⟩ = some (.int .i64 x) ∧ w'.cell? ⟨w.heap.size + 1 + 1 + 1, 1, none⟩ = some (.int .i64 0) ∧ (∃ q : Ga.E, EBox w' (w.heap.size + 1 + 1) q) ∧ EBox w' w.heap.size (0, 0) ∧ EBox w' (w.heap.size + 1) o2 ∧ EBox w' (w.heap.size + 1 + 1 + 1) (x, 0) ∧ Below w.heap.size w w') A2 from fun A1 A2 ⟨k0, k1, k2, k3, ⟨q, kq⟩, ky, ka, ko, kb⟩ h => ⟨below_cell h k0, below_cell h k1, below_cell h k2, below_cell h k3, ⟨q, kq.kept h⟩, ky.kept h, ka.kept h, ko.kept h, kb.trans (h.mono kb.size)⟩)
        clear hy3 ha3 ho3 hb3 hn3
        refine wp_region_held_drew (S := (fun w' : World => w'.cell? ⟨wr.heap.size, 0, none⟩ = some (.int .i64 y) ∧ w'.cell? ⟨wr.heap.size, 1, none⟩ = some (.int .i64 0) ∧ w'.cell? ⟨w.heap.size + 1 + 1 + 1, 0, none⟩ = some (.int .i64 x) ∧ w'.cell? ⟨w.heap.size + 1 + 1 + 1, 1, none⟩ = some (.int .i64 0) ∧ (∃ q : Ga.E, EBox w' (w.heap.size + 1 + 1) q) ∧ EBox w' w.heap.size (0, 0) ∧ EBox w' (w.heap.size + 1) o2 ∧ EBox w' (w.heap.size + 1 + 1 + 1) (x, 0) ∧ Below w.heap.size w w')) (by kernel_rfl) ?_ (fun hHeld => ?_)
        · exact hkp.out _ _ hS0 (Below.drew (Below.refl _ _))
        refine takeW (i := 1) (v := ?_) rfl (by kernel_rfl) (by kernel_rfl) (by kernel_rfl) (fun _ _ _ h => h) (by rfl) ?_ (by assumption) ?_
        rotate_left
        focus (intro w hSw; (try dsimp only at hSw); go_simp; try (with_reducible rfl))
        simp only [Act.put, List.setIfInBounds_toArray, List.set_cons_zero, List.set_cons_succ]
        refine takeW (i := 2) (v := ?_) rfl (by kernel_rfl) (by kernel_rfl) (by kernel_rfl) (fun _ _ _ h => h) (by rfl) ?_ (by assumption) ?_
        rotate_left
        focus (intro w hSw; (try dsimp only at hSw); go_simp; try (with_reducible rfl))
        simp only [Act.put, List.setIfInBounds_toArray, List.set_cons_zero, List.set_cons_succ]
        refine readyTwo (i := 0) (j := 3) (by kernel_rfl) rfl rfl (fun K hK => ?_) (fun K hK => ?_)
        · go_simp
          refine hK.out _ _ ?_ (fun hHeld => ?_)
          · assumption
          clear hK K
          refine readyOne (i := 3) (by kernel_rfl) rfl (fun K hK => ?_)
          go_simp
          refine (keepSU (fun w' : World => w'.cell? ⟨wr.heap.size, 0, none⟩ = some (.int .i64 y) ∧ w'.cell? ⟨wr.heap.size, 1, none⟩ = some (.int .i64 0) ∧ w'.cell? ⟨w.heap.size + 1 + 1 + 1, 0, none⟩ = some (.int .i64 x) ∧ w'.cell? ⟨w.heap.size + 1 + 1 + 1, 1, none⟩ = some (.int .i64 0) ∧ (∃ q : Ga.E, EBox w' (w.heap.size + 1 + 1) q) ∧ EBox w' w.heap.size (0, 0) ∧ EBox w' (w.heap.size + 1) o2 ∧ EBox w' (w.heap.size + 1 + 1 + 1) (x, 0) ∧ Below w.heap.size w w') hkp.out (by exact hu3) (psub_eq H2.out _) (by assumption)).mono ?_
          rintro e w4 ⟨rfl, kS, hu4⟩
          obtain ⟨d0, d1, _, _⟩ := hu4.facts
          refine hK.out _ _ kS (fun hHeld => ?_)
          clear hK K
          refine readyOne (i := 4) (by kernel_rfl) rfl (fun K hK => ?_)
          go_simp
          refine (keepS (fun w' : World => w'.cell? ⟨wr.heap.size, 0, none⟩ = some (.int .i64 y) ∧ w'.cell? ⟨wr.heap.size, 1, none⟩ = some (.int .i64 0) ∧ w'.cell? ⟨w.heap.size + 1 + 1 + 1, 0, none⟩ = some (.int .i64 x) ∧ w'.cell? ⟨w.heap.size + 1 + 1 + 1, 1, none⟩ = some (.int .i64 0) ∧ (∃ q : Ga.E, EBox w' (w.heap.size + 1 + 1) q) ∧ EBox w' w.heap.size (0, 0) ∧ EBox w' (w.heap.size + 1) o2 ∧ EBox w' (w.heap.size + 1 + 1 + 1) (x, 0) ∧ Below w.heap.size w w') hkp.out (pmul_eq H3.out _) (by assumption)).mono ?_
          rintro e w5 ⟨rfl, kS⟩
          have kS' := kS
          obtain ⟨k0, k1, k2, k3, ⟨q0, hq0⟩, ky, ka, ko, kb⟩ := kS'
          obtain ⟨e0, e1, f0, f1⟩ := hq0.facts
          refine hK.out _ _ kS (fun hHeld => ?_)
          clear hK K
          refine readyOne (i := 5) (by kernel_rfl) rfl (fun K hK => ?_)
          go_simp
          refine hK.out _ _ ?_ (fun hHeld => ?_)
          · exact ⟨(World.cell?_setCell_far _ _ _ _ (by first | (simp; done) | (simp; omega))).trans ((World.cell?_setCell_far _ _ _ _ (by first | (simp; done) | (simp; omega))).trans k0), (World.cell?_setCell_far _ _ _ _ (by first | (simp; done) | (simp; omega))).trans ((World.cell?_setCell_far _ _ _ _ (by first | (simp; done) | (simp; omega))).trans k1), (World.cell?_setCell_far _ _ _ _ (by first | (simp; done) | (simp; omega))).trans ((World.cell?_setCell_far _ _ _ _ (by first | (simp; done) | (simp; omega))).trans k2), (World.cell?_setCell_far _ _ _ _ (by first | (simp; done) | (simp; omega))).trans ((World.cell?_setCell_far _ _ _ _ (by first | (simp; done) | (simp; omega))).trans k3), ⟨u2, hq0.set u2.1 u2.2⟩, (ky.other _ 0 _ (by omega)).other _ 1 _ (by omega), (ka.other _ 0 _ (by omega)).other _ 1 _ (by omega), (ko.other _ 0 _ (by omega)).other _ 1 _ (by omega), (kb.setCell (p := ⟨w.heap.size + 1 + 1, 0, none⟩) (by first | (simp; done) | (simp; omega)) _).setCell (p := ⟨w.heap.size + 1 + 1, 1, none⟩) (by first | (simp; done) | (simp; omega)) _⟩
          clear hK K
          refine wpAnyH_done (by kernel_rfl) ?_ _
          obtain ⟨_, _, _, _, _, ky2, ka2, ko2, kb2⟩ := hHeld
          go_wp2
          go_roundw
          case rel => exact ⟨j + 1, by go_num, by omega, by rw [HO.out]; exact ka2, by rw [HU2.out]; exact hq0.set u2.1 u2.2, ko2, ky2, kb2⟩
          case measure => simp [intOf]; omega
        · go_simp
          refine (keepSU (fun w' : World => w'.cell? ⟨wr.heap.size, 0, none⟩ = some (.int .i64 y) ∧ w'.cell? ⟨wr.heap.size, 1, none⟩ = some (.int .i64 0) ∧ w'.cell? ⟨w.heap.size + 1 + 1 + 1, 0, none⟩ = some (.int .i64 x) ∧ w'.cell? ⟨w.heap.size + 1 + 1 + 1, 1, none⟩ = some (.int .i64 0) ∧ (∃ q : Ga.E, EBox w' (w.heap.size + 1 + 1) q) ∧ EBox w' w.heap.size (0, 0) ∧ EBox w' (w.heap.size + 1) o2 ∧ EBox w' (w.heap.size + 1 + 1 + 1) (x, 0) ∧ Below w.heap.size w w') hkp.out (by exact hu3) (psub_eq H2.out _) (by assumption)).mono ?_
          rintro e w4 ⟨rfl, kS, hu4⟩
          obtain ⟨d0, d1, _, _⟩ := hu4.facts
          refine hK.out _ _ kS (fun hHeld => ?_)
          clear hK K
          refine readyOne (i := 0) (by kernel_rfl) rfl (fun K hK => ?_)
          go_simp
          refine hK.out _ _ ?_ (fun hHeld => ?_)
          · assumption
          clear hK K
          refine readyOne (i := 4) (by kernel_rfl) rfl (fun K hK => ?_)
          go_simp
          refine (keepS (fun w' : World => w'.cell? ⟨wr.heap.size, 0, none⟩ = some (.int .i64 y) ∧ w'.cell? ⟨wr.heap.size, 1, none⟩ = some (.int .i64 0) ∧ w'.cell? ⟨w.heap.size + 1 + 1 + 1, 0, none⟩ = some (.int .i64 x) ∧ w'.cell? ⟨w.heap.size + 1 + 1 + 1, 1, none⟩ = some (.int .i64 0) ∧ (∃ q : Ga.E, EBox w' (w.heap.size + 1 + 1) q) ∧ EBox w' w.heap.size (0, 0) ∧ EBox w' (w.heap.size + 1) o2 ∧ EBox w' (w.heap.size + 1 + 1 + 1) (x, 0) ∧ Below w.heap.size w w') hkp.out (pmul_eq H3.out _) (by assumption)).mono ?_
          rintro e w5 ⟨rfl, kS⟩
          have kS' := kS
          obtain ⟨k0, k1, k2, k3, ⟨q0, hq0⟩, ky, ka, ko, kb⟩ := kS'
          obtain ⟨e0, e1, f0, f1⟩ := hq0.facts
          refine hK.out _ _ kS (fun hHeld => ?_)
          clear hK K
          refine readyOne (i := 5) (by kernel_rfl) rfl (fun K hK => ?_)
          go_simp
          refine hK.out _ _ ?_ (fun hHeld => ?_)
          · exact ⟨(World.cell?_setCell_far _ _ _ _ (by first | (simp; done) | (simp; omega))).trans ((World.cell?_setCell_far _ _ _ _ (by first | (simp; done) | (simp; omega))).trans k0), (World.cell?_setCell_far _ _ _ _ (by first | (simp; done) | (simp; omega))).trans ((World.cell?_setCell_far _ _ _ _ (by first | (simp; done) | (simp; omega))).trans k1), (World.cell?_setCell_far _ _ _ _ (by first | (simp; done) | (simp; omega))).trans ((World.cell?_setCell_far _ _ _ _ (by first | (simp; done) | (simp; omega))).trans k2), (World.cell?_setCell_far _ _ _ _ (by first | (simp; done) | (simp; omega))).trans ((World.cell?_setCell_far _ _ _ _ (by first | (simp; done) | (simp; omega))).trans k3), ⟨u2, hq0.set u2.1 u2.2⟩, (ky.other _ 0 _ (by omega)).other _ 1 _ (by omega), (ka.other _ 0 _ (by omega)).other _ 1 _ (by omega), (ko.other _ 0 _ (by omega)).other _ 1 _ (by omega), (kb.setCell (p := ⟨w.heap.size + 1 + 1, 0, none⟩) (by first | (simp; done) | (simp; omega)) _).setCell (p := ⟨w.heap.size + 1 + 1, 1, none⟩) (by first | (simp; done) | (simp; omega)) _⟩
          clear hK K
          refine wpAnyH_done (by kernel_rfl) ?_ _
          obtain ⟨_, _, _, _, _, ky2, ka2, ko2, kb2⟩ := hHeld
          go_wp2
          go_roundw
          case rel => exact ⟨j + 1, by go_num, by omega, by rw [HO.out]; exact ka2, by rw [HU2.out]; exact hq0.set u2.1 u2.2, ko2, ky2, kb2⟩
          case measure => simp [intOf]; omega
    · obtain rfl : j = l.length := by omega
      obtain ⟨o, ho1⟩ : ∃ z, Sr.overE (Sr.ids l) k l.length = z := ⟨_, rfl⟩
      obtain ⟨u, hu1⟩ : ∃ z, Sr.underE (Sr.ids l) k l.length = z := ⟨_, rfl⟩
      have hR := HW.out
      rw [ho1, hu1] at hR
      rw [ho1] at ha
      rw [hu1] at hu
      obtain ⟨⟨z, c⟩, hz⟩ : ∃ zc, Ga.inv u = zc := ⟨_, rfl⟩
      rw [hz] at hR
      have HR := Lib.hid hR.symm
      have HZ := Lib.hid hz
      clear hR hz ho1 hu1 HW HOK
      obtain ⟨k20, k21, f20, f21⟩ := hu.facts
      go_wp2_with fail
      refine (s_inv HZ.out _).mono ?_
      rintro e w2 ⟨rfl, h2⟩
      have ha2 := (ha.kept h2).alloc (.cells #[.int .i64 z.1, .int .i64 z.2] 24)
      have hy2 := (hy.kept h2).alloc (.cells #[.int .i64 z.1, .int .i64 z.2] 24)
      have hb1 := hb.trans (h2.mono hb.size)
      have hb2 := hb1.alloc hb1.size (.cells #[.int .i64 z.1, .int .i64 z.2] 24)
      clear k20 k21 f20 f21 ha hu ho hy hb h2 hb1
      obtain ⟨k20, k21, _, _⟩ := ha2.facts
      go_wp2_with fail
      refine (pmul_eq HR.out _).mono ?_
      rintro e w3 ⟨rfl, h3⟩
      have hy3 := hy2.kept h3
      have hb3 := hb2.trans (h3.mono hb2.size)
      clear k20 k21 ha2 hy2 hb2 h3
      obtain ⟨_, _, f0, f1⟩ := hy3.facts
      obtain ⟨y0, y1, _, _⟩ := hy3.facts
      go_wp2
      refine bodyPost_ret (v := elv R) ?_ rfl ⟨rfl, ?_⟩
      · obtain ⟨d0, d1, _, _⟩ := (hy3.set R.1 R.2).facts
        simp [results, Try.f32, go_sem, d0, d1]
      · exact (hb3.setCell (p := ⟨w.heap.size, 0, none⟩) (by simp) _).setCell (p := ⟨w.heap.size, 1, none⟩) (by simp) _
end Go.Proofs.Ytngmkokmomficaa
