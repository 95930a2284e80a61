/- A polynomial's value, as the program and the document reckon it. (Written by gen-sheval.py.) -/
import Derived.Test.YtngmkokmomficaaShSl
import Derived.Test.YtngmkokmomficaaKeepR
import Derived.Deep.DeepCutAuto
import Derived.ScopeJumps
namespace Go.Proofs.Ytngmkokmomficaa
open Go.RowKit
attribute [local go_sem] build_el build_el0 build_el1

/-- Where a row stands that is not empty. -/
theorem elems_row {w : World} {v : Value} {p : List Ga.E} (h : FlatAt w v 2 (elems p)) {w' : World} (hb : Below w.heap.size w w') (h0 : 0 < p.length) :
    ∃ b off cap, v = .slice (some ⟨b, off, none⟩) p.length cap ∧ b < w.heap.size ∧ ∀ k (hk : k < p.length), w'.cell? ⟨b, off + k * 2, none⟩ = some (.int .i64 p[k].1) ∧ w'.cell? ⟨b, off + k * 2 + 1, none⟩ = some (.int .i64 p[k].2) := by
  rcases flat_elems h hb with ⟨rfl, _⟩ | ⟨_, h1⟩
  · simp at h0
  · exact h1

set_option maxHeartbeats 4000000 in
set_option maxRecDepth 100000 in
theorem peval_any (v : Value) (p : List Ga.E) (x : Ga.E) (w : World) (hv : FlatAt w v 2 (elems p)) (hlen : p.length ≤ 140737488351232) :
    Calls Try.prog 14 #[v, elv x] w fun e w' => e = .returned (elv (Sr.evalE p x)) ∧ Below w.heap.size w w' := by
  have hrow := Lib.hid (fun (w' : World) (hb : Below w.heap.size w w') (h0 : 0 < p.length) => elems_row hv hb h0)
  obtain ⟨av, cv, rfl⟩ := hv.len (n := p.length) (elems_len p) (by omega)
  clear hv
  go_enter Try.func14, Try.ntmps14
  go_wp2_with fail
  refine wp_scope_jumps 0 (fun a' w' => ∃ (m : Nat) (s : Ga.E) (u7 u8 u9 u10 u11 u12 u13 u14 u15 u16 u17 u18 u19 u20 u21 : Value), a' = { tmps := #[.slice av p.length cv, elv x, undef, .pointer (some ⟨w.heap.size, 0, none⟩), .pointer (some ⟨w.heap.size + 1, 0, none⟩), .pointer (some ⟨w.heap.size + 1 + 1, 0, none⟩), .int .i64 m, u7, u8, u9, u10, u11, u12, u13, u14, u15, u16, u17, u18, u19, u20, u21], defers := [] } ∧ m ≤ p.length ∧ Sr.evalE (p.drop m) x = s ∧ EBox w' w.heap.size x ∧ EBox w' (w.heap.size + 1) (0, 0) ∧ EBox w' (w.heap.size + 1 + 1) s ∧ Below w.heap.size w w') (fun a' _ => (intOf (a'.tmps.getD 6 undef)).toNat) rfl ?_ ?_
  · have hx := ((EBox.new w x.1 x.2).alloc (.cells #[.int .i64 0, .int .i64 0] 24)).alloc (.cells #[.int .i64 0, .int .i64 0] 24)
    have hz := (EBox.new (w.alloc (.cells #[.int .i64 x.1, .int .i64 x.2] 24)) 0 0).alloc (.cells #[.int .i64 0, .int .i64 0] 24)
    have hs := EBox.new ((w.alloc (.cells #[.int .i64 x.1, .int .i64 x.2] 24)).alloc (.cells #[.int .i64 0, .int .i64 0] 24)) 0 0
    have hb : Below w.heap.size w (((w.alloc (.cells #[.int .i64 x.1, .int .i64 x.2] 24)).alloc (.cells #[.int .i64 0, .int .i64 0] 24)).alloc (.cells #[.int .i64 0, .int .i64 0] 24)) := by
      refine Below.alloc (Below.alloc (Below.alloc (Below.refl _ _) ?_ _) ?_ _) ?_ _ <;> (first | exact Nat.le_refl _ | (simp only [World.size_alloc]; omega))
    simp only [World.size_alloc] at hz hs
    go_wp2
    go_step3
    generalize ((w.alloc (.cells #[.int .i64 x.1, .int .i64 x.2] 24)).alloc (.cells #[.int .i64 0, .int .i64 0] 24)).alloc (.cells #[.int .i64 0, .int .i64 0] 24) = wr at hx hz hs hb ⊢
    generalize hmi : (p.length : Int) = mi
    obtain ⟨m, rfl⟩ : ∃ m : Nat, mi = (m : Int) := ⟨p.length, hmi.symm⟩
    have hml : m ≤ p.length := by omega
    obtain ⟨s, hse⟩ : ∃ s : Ga.E, s = (0, 0) := ⟨_, rfl⟩
    have hm : Sr.evalE (p.drop m) x = s := by
      rw [hse, show m = p.length by omega]
      exact Sr.evalE_end p x
    replace hs : EBox wr (w.heap.size + 1 + 1) s := by rw [hse]; exact hs
    clear hse hmi
    try simp only [Prod.mk.eta] at hx
    by_cases h0 : m = 0
    · subst h0
      obtain ⟨c20, c21, _, _⟩ := hs.facts
      obtain ⟨_, _, f0, f1⟩ := hz.facts
      rw [List.drop_zero] at hm
      clear hrow
      go_wp2
      simp only [Exit.jump]
      refine bodyPost_ret (v := elv s) ?_ rfl ⟨by rw [← hm], ?_⟩
      · obtain ⟨d0, d1, _, _⟩ := (hz.set s.1 s.2).facts
        simp [results, Try.f14, go_sem, d0, d1]
      · exact (hb.setCell (p := ⟨w.heap.size + 1, 0, none⟩) (by simp) _).setCell (p := ⟨w.heap.size + 1, 1, none⟩) (by simp) _
    · obtain ⟨b, off, cap, hv, hblt, hc⟩ := hrow.out wr hb (by omega)
      injection hv with e1 _ e2
      subst e1 e2
      obtain ⟨j, rfl⟩ : ∃ j, m = j + 1 := ⟨m - 1, by omega⟩
      obtain ⟨c2, c3⟩ := hc j (by omega)
      have hnext := Sr.evalE_drop p x j (by omega)
      rw [hm] at hnext
      obtain ⟨c, hcj⟩ : ∃ c, p[j] = c := ⟨_, rfl⟩
      rw [hcj] at c2 c3 hnext
      obtain ⟨s1, hs1⟩ : ∃ z, Ga.mul s x = z := ⟨_, rfl⟩
      obtain ⟨s2, hs2⟩ : ∃ z, Ga.add s1 c = z := ⟨_, rfl⟩
      rw [hs1, hs2] at hnext
      have HN := Lib.hid hnext
      have H1 := Lib.hid hs1
      have H2 := Lib.hid hs2
      obtain ⟨k0, k1, _, _⟩ := hx.facts
      obtain ⟨c50, c51, f50, f51⟩ := hs.facts
      have hS0 : (fun w' : World => w'.cell? ⟨w.heap.size, 0, none⟩ = some (.int .i64 x.1) ∧ w'.cell? ⟨w.heap.size, 1, none⟩ = some (.int .i64 x.2) ∧ w'.cell? ⟨b, off + j * 2, none⟩ = some (.int .i64 c.1) ∧ w'.cell? ⟨b, off + j * 2 + 1, none⟩ = some (.int .i64 c.2) ∧ (∃ q : Ga.E, EBox w' (w.heap.size + 1 + 1) q) ∧ EBox w' w.heap.size x ∧ EBox w' (w.heap.size + 1) (0, 0) ∧ Below w.heap.size w w') _ := ⟨k0, k1, c2, c3, ⟨s, hs⟩, hx, hz, hb⟩
      have hkp := Lib.hid (show ∀ A1 A2 : World, (fun w' : World => w'.cell? ⟨w.heap.size, 0, none⟩ = some (.int .i64 x.1) ∧ w'.cell? ⟨w.heap.size, 1, none⟩ = some (.int .i64 x.2) ∧ w'.cell? ⟨b, off + j * 2, none⟩ = some (.int .i64 c.1) ∧ w'.cell? ⟨b, off + j * 2 + 1, none⟩ = some (.int .i64 c.2) ∧ (∃ q : Ga.E, EBox w' (w.heap.size + 1 + 1) q) ∧ EBox w' w.heap.size x ∧ EBox w' (w.heap.size + 1) (0, 0) ∧ Below w.heap.size w w') A1 → Below A1.heap.size A1 A2 → (fun w' : World => w'.cell? ⟨w.heap.size, 0, none⟩ = some (.int .i64 x.1) ∧ w'.cell? ⟨w.heap.size, 1, none⟩ = some (.int .i64 x.2) ∧ w'.cell? ⟨b, off + j * 2, none⟩ = some (.int .i64 c.1) ∧ w'.cell? ⟨b, off + j * 2 + 1, none⟩ = some (.int .i64 c.2) ∧ (∃ q : Ga.E, EBox w' (w.heap.size + 1 + 1) q) ∧ EBox w' w.heap.size x ∧ EBox w' (w.heap.size + 1) (0, 0) ∧ Below w.heap.size w w') A2 from fun A1 A2 ⟨k0, k1, k2, k3, ⟨q, kq⟩, kx, kz, kb⟩ h => ⟨below_cell h k0, below_cell h k1, below_cell h k2, below_cell h k3, ⟨q, kq.kept h⟩, kx.kept h, kz.kept h, kb.trans (h.mono kb.size)⟩)
      have t0 : (((j + 1 : Nat) : Int) == 0) = false := by rw [beq_eq_false_iff_ne]; omega
      have t1 : (((j + 1 : Nat) : Int) - 1) = (j : Int) := by omega
      have t2 : (j : Int) < (p.length : Int) := by omega
      have hjl : j < p.length := by omega
      have hML := Lib.hid hlen
      clear hc hm hcj hnext hs1 hs2 hrow hz hb
      go_wp2_with fail
      refine wp_region_held_drew (S := (fun w' : World => w'.cell? ⟨w.heap.size, 0, none⟩ = some (.int .i64 x.1) ∧ w'.cell? ⟨w.heap.size, 1, none⟩ = some (.int .i64 x.2) ∧ w'.cell? ⟨b, off + j * 2, none⟩ = some (.int .i64 c.1) ∧ w'.cell? ⟨b, off + j * 2 + 1, none⟩ = some (.int .i64 c.2) ∧ (∃ q : Ga.E, EBox w' (w.heap.size + 1 + 1) q) ∧ EBox w' w.heap.size x ∧ EBox w' (w.heap.size + 1) (0, 0) ∧ Below w.heap.size w w')) (by kernel_rfl) ?_ (fun hHeld => ?_)
      · exact hkp.out _ _ hS0 (Below.drew (Below.refl _ _))
      refine takeW (i := 1) (v := ?_) rfl (by kernel_rfl) (by kernel_rfl) (by kernel_rfl) (fun _ _ _ h => h) (by rfl) ?_ (by assumption) ?_
      rotate_left
      focus (intro w hSw; (try dsimp only at hSw); go_simp; try (with_reducible rfl))
      simp only [Act.put, List.setIfInBounds_toArray, List.set_cons_zero, List.set_cons_succ]
      refine takeW (i := 3) (v := ?_) rfl (by kernel_rfl) (by kernel_rfl) (by kernel_rfl) (fun _ _ _ h => h) (by rfl) ?_ (by assumption) ?_
      rotate_left
      focus (intro w hSw; (try dsimp only at hSw); go_simp; try (with_reducible rfl))
      simp only [Act.put, List.setIfInBounds_toArray, List.set_cons_zero, List.set_cons_succ]
      refine takeW (i := 4) (v := ?_) rfl (by kernel_rfl) (by kernel_rfl) (by kernel_rfl) (fun _ _ _ h => h) (by rfl) ?_ (by assumption) ?_
      rotate_left
      focus (intro w hSw; (try dsimp only at hSw); go_simp; try (with_reducible rfl))
      simp only [Act.put, List.setIfInBounds_toArray, List.set_cons_zero, List.set_cons_succ]
      refine takeW (i := 5) (v := ?_) rfl (by kernel_rfl) (by kernel_rfl) (by kernel_rfl) (fun _ _ _ h => h) (by rfl) ?_ (by assumption) ?_
      rotate_left
      focus (intro w hSw; (try dsimp only at hSw); go_simp; try (with_reducible rfl))
      simp only [Act.put, List.setIfInBounds_toArray, List.set_cons_zero, List.set_cons_succ]
      refine takeW (i := 6) (v := ?_) rfl (by kernel_rfl) (by kernel_rfl) (by kernel_rfl) (fun _ _ _ h => h) (by rfl) ?_ (by assumption) ?_
      rotate_left
      focus (intro w hSw; (try dsimp only at hSw); go_simp; try (with_reducible rfl))
      simp only [Act.put, List.setIfInBounds_toArray, List.set_cons_zero, List.set_cons_succ]
      refine readyOne (i := 0) (by kernel_rfl) rfl (fun K hK => ?_)
      go_simp
      refine hK.out _ _ ?_ (fun hHeld => ?_)
      · assumption
      clear hK K
      refine readyOne (i := 2) (by kernel_rfl) rfl (fun K hK => ?_)
      go_simp
      refine (keepS (fun w' : World => w'.cell? ⟨w.heap.size, 0, none⟩ = some (.int .i64 x.1) ∧ w'.cell? ⟨w.heap.size, 1, none⟩ = some (.int .i64 x.2) ∧ w'.cell? ⟨b, off + j * 2, none⟩ = some (.int .i64 c.1) ∧ w'.cell? ⟨b, off + j * 2 + 1, none⟩ = some (.int .i64 c.2) ∧ (∃ q : Ga.E, EBox w' (w.heap.size + 1 + 1) q) ∧ EBox w' w.heap.size x ∧ EBox w' (w.heap.size + 1) (0, 0) ∧ Below w.heap.size w w') hkp.out (pmul_eq H1.out _) (by assumption)).mono ?_
      rintro e w4 ⟨rfl, kS⟩
      refine hK.out _ _ kS (fun hHeld => ?_)
      clear hK K
      refine readyOne (i := 7) (by kernel_rfl) rfl (fun K hK => ?_)
      go_simp
      refine (keepS (fun w' : World => w'.cell? ⟨w.heap.size, 0, none⟩ = some (.int .i64 x.1) ∧ w'.cell? ⟨w.heap.size, 1, none⟩ = some (.int .i64 x.2) ∧ w'.cell? ⟨b, off + j * 2, none⟩ = some (.int .i64 c.1) ∧ w'.cell? ⟨b, off + j * 2 + 1, none⟩ = some (.int .i64 c.2) ∧ (∃ q : Ga.E, EBox w' (w.heap.size + 1 + 1) q) ∧ EBox w' w.heap.size x ∧ EBox w' (w.heap.size + 1) (0, 0) ∧ Below w.heap.size w w') hkp.out (padd_eq H2.out _) (by assumption)).mono ?_
      rintro e w5 ⟨rfl, kS⟩
      have kS' := kS
      obtain ⟨k0, k1, k2, k3, ⟨q0, hq0⟩, kx, kz, kb⟩ := kS'
      obtain ⟨d0, d1, f0, f1⟩ := hq0.facts
      refine hK.out _ _ kS (fun hHeld => ?_)
      clear hK K
      refine readyOne (i := 8) (by kernel_rfl) rfl (fun K hK => ?_)
      go_simp
      refine hK.out _ _ ?_ (fun hHeld => ?_)
      · exact ⟨(World.cell?_setCell_far _ _ _ _ (by simp; omega)).trans ((World.cell?_setCell_far _ _ _ _ (by simp; omega)).trans k0), (World.cell?_setCell_far _ _ _ _ (by simp; omega)).trans ((World.cell?_setCell_far _ _ _ _ (by simp; omega)).trans k1), (World.cell?_setCell_far _ _ _ _ (by simp; omega)).trans ((World.cell?_setCell_far _ _ _ _ (by simp; omega)).trans k2), (World.cell?_setCell_far _ _ _ _ (by simp; omega)).trans ((World.cell?_setCell_far _ _ _ _ (by simp; omega)).trans k3), ⟨s2, hq0.set s2.1 s2.2⟩, (kx.other _ 0 _ (by omega)).other _ 1 _ (by omega), (kz.other _ 0 _ (by omega)).other _ 1 _ (by omega), (kb.setCell (p := ⟨w.heap.size + 1 + 1, 0, none⟩) (by simp; omega) _).setCell (p := ⟨w.heap.size + 1 + 1, 1, none⟩) (by simp; omega) _⟩
      clear hK K
      refine wpAnyH_done (by kernel_rfl) ?_ _
      obtain ⟨_, _, _, _, _, hx2, hz2, hb2⟩ := hHeld
      go_wp2
      go_step3
      refine ⟨rfl, ⟨j, s2, _, _, _, _, _, _, _, _, _, _, _, _, _, _, _, rfl, by omega, HN.out, hx2, hz2, hq0.set s2.1 s2.2, hb2⟩⟩
  · rintro a' wr ⟨m, s, u7, u8, u9, u10, u11, u12, u13, u14, u15, u16, u17, u18, u19, u20, u21, rfl, hml, hm, hx, hz, hs, hb⟩
    by_cases h0 : m = 0
    · subst h0
      obtain ⟨c20, c21, _, _⟩ := hs.facts
      obtain ⟨_, _, f0, f1⟩ := hz.facts
      rw [List.drop_zero] at hm
      clear hrow
      go_wp2
      simp only [Exit.jump]
      refine bodyPost_ret (v := elv s) ?_ rfl ⟨by rw [← hm], ?_⟩
      · obtain ⟨d0, d1, _, _⟩ := (hz.set s.1 s.2).facts
        simp [results, Try.f14, go_sem, d0, d1]
      · exact (hb.setCell (p := ⟨w.heap.size + 1, 0, none⟩) (by simp) _).setCell (p := ⟨w.heap.size + 1, 1, none⟩) (by simp) _
    · obtain ⟨b, off, cap, hv, hblt, hc⟩ := hrow.out wr hb (by omega)
      injection hv with e1 _ e2
      subst e1 e2
      obtain ⟨j, rfl⟩ : ∃ j, m = j + 1 := ⟨m - 1, by omega⟩
      obtain ⟨c2, c3⟩ := hc j (by omega)
      have hnext := Sr.evalE_drop p x j (by omega)
      rw [hm] at hnext
      obtain ⟨c, hcj⟩ : ∃ c, p[j] = c := ⟨_, rfl⟩
      rw [hcj] at c2 c3 hnext
      obtain ⟨s1, hs1⟩ : ∃ z, Ga.mul s x = z := ⟨_, rfl⟩
      obtain ⟨s2, hs2⟩ : ∃ z, Ga.add s1 c = z := ⟨_, rfl⟩
      rw [hs1, hs2] at hnext
      have HN := Lib.hid hnext
      have H1 := Lib.hid hs1
      have H2 := Lib.hid hs2
      obtain ⟨k0, k1, _, _⟩ := hx.facts
      obtain ⟨c50, c51, f50, f51⟩ := hs.facts
      have hS0 : (fun w' : World => w'.cell? ⟨w.heap.size, 0, none⟩ = some (.int .i64 x.1) ∧ w'.cell? ⟨w.heap.size, 1, none⟩ = some (.int .i64 x.2) ∧ w'.cell? ⟨b, off + j * 2, none⟩ = some (.int .i64 c.1) ∧ w'.cell? ⟨b, off + j * 2 + 1, none⟩ = some (.int .i64 c.2) ∧ (∃ q : Ga.E, EBox w' (w.heap.size + 1 + 1) q) ∧ EBox w' w.heap.size x ∧ EBox w' (w.heap.size + 1) (0, 0) ∧ Below w.heap.size w w') _ := ⟨k0, k1, c2, c3, ⟨s, hs⟩, hx, hz, hb⟩
      have hkp := Lib.hid (show ∀ A1 A2 : World, (fun w' : World => w'.cell? ⟨w.heap.size, 0, none⟩ = some (.int .i64 x.1) ∧ w'.cell? ⟨w.heap.size, 1, none⟩ = some (.int .i64 x.2) ∧ w'.cell? ⟨b, off + j * 2, none⟩ = some (.int .i64 c.1) ∧ w'.cell? ⟨b, off + j * 2 + 1, none⟩ = some (.int .i64 c.2) ∧ (∃ q : Ga.E, EBox w' (w.heap.size + 1 + 1) q) ∧ EBox w' w.heap.size x ∧ EBox w' (w.heap.size + 1) (0, 0) ∧ Below w.heap.size w w') A1 → Below A1.heap.size A1 A2 → (fun w' : World => w'.cell? ⟨w.heap.size, 0, none⟩ = some (.int .i64 x.1) ∧ w'.cell? ⟨w.heap.size, 1, none⟩ = some (.int .i64 x.2) ∧ w'.cell? ⟨b, off + j * 2, none⟩ = some (.int .i64 c.1) ∧ w'.cell? ⟨b, off + j * 2 + 1, none⟩ = some (.int .i64 c.2) ∧ (∃ q : Ga.E, EBox w' (w.heap.size + 1 + 1) q) ∧ EBox w' w.heap.size x ∧ EBox w' (w.heap.size + 1) (0, 0) ∧ Below w.heap.size w w') A2 from fun A1 A2 ⟨k0, k1, k2, k3, ⟨q, kq⟩, kx, kz, kb⟩ h => ⟨below_cell h k0, below_cell h k1, below_cell h k2, below_cell h k3, ⟨q, kq.kept h⟩, kx.kept h, kz.kept h, kb.trans (h.mono kb.size)⟩)
      have t0 : (((j + 1 : Nat) : Int) == 0) = false := by rw [beq_eq_false_iff_ne]; omega
      have t1 : (((j + 1 : Nat) : Int) - 1) = (j : Int) := by omega
      have t2 : (j : Int) < (p.length : Int) := by omega
      have hjl : j < p.length := by omega
      have hML := Lib.hid hlen
      clear hc hm hcj hnext hs1 hs2 hrow hz hb
      go_wp2_with fail
      refine wp_region_held_drew (S := (fun w' : World => w'.cell? ⟨w.heap.size, 0, none⟩ = some (.int .i64 x.1) ∧ w'.cell? ⟨w.heap.size, 1, none⟩ = some (.int .i64 x.2) ∧ w'.cell? ⟨b, off + j * 2, none⟩ = some (.int .i64 c.1) ∧ w'.cell? ⟨b, off + j * 2 + 1, none⟩ = some (.int .i64 c.2) ∧ (∃ q : Ga.E, EBox w' (w.heap.size + 1 + 1) q) ∧ EBox w' w.heap.size x ∧ EBox w' (w.heap.size + 1) (0, 0) ∧ Below w.heap.size w w')) (by kernel_rfl) ?_ (fun hHeld => ?_)
      · exact hkp.out _ _ hS0 (Below.drew (Below.refl _ _))
      refine takeW (i := 1) (v := ?_) rfl (by kernel_rfl) (by kernel_rfl) (by kernel_rfl) (fun _ _ _ h => h) (by rfl) ?_ (by assumption) ?_
      rotate_left
      focus (intro w hSw; (try dsimp only at hSw); go_simp; try (with_reducible rfl))
      simp only [Act.put, List.setIfInBounds_toArray, List.set_cons_zero, List.set_cons_succ]
      refine takeW (i := 3) (v := ?_) rfl (by kernel_rfl) (by kernel_rfl) (by kernel_rfl) (fun _ _ _ h => h) (by rfl) ?_ (by assumption) ?_
      rotate_left
      focus (intro w hSw; (try dsimp only at hSw); go_simp; try (with_reducible rfl))
      simp only [Act.put, List.setIfInBounds_toArray, List.set_cons_zero, List.set_cons_succ]
      refine takeW (i := 4) (v := ?_) rfl (by kernel_rfl) (by kernel_rfl) (by kernel_rfl) (fun _ _ _ h => h) (by rfl) ?_ (by assumption) ?_
      rotate_left
      focus (intro w hSw; (try dsimp only at hSw); go_simp; try (with_reducible rfl))
      simp only [Act.put, List.setIfInBounds_toArray, List.set_cons_zero, List.set_cons_succ]
      refine takeW (i := 5) (v := ?_) rfl (by kernel_rfl) (by kernel_rfl) (by kernel_rfl) (fun _ _ _ h => h) (by rfl) ?_ (by assumption) ?_
      rotate_left
      focus (intro w hSw; (try dsimp only at hSw); go_simp; try (with_reducible rfl))
      simp only [Act.put, List.setIfInBounds_toArray, List.set_cons_zero, List.set_cons_succ]
      refine takeW (i := 6) (v := ?_) rfl (by kernel_rfl) (by kernel_rfl) (by kernel_rfl) (fun _ _ _ h => h) (by rfl) ?_ (by assumption) ?_
      rotate_left
      focus (intro w hSw; (try dsimp only at hSw); go_simp; try (with_reducible rfl))
      simp only [Act.put, List.setIfInBounds_toArray, List.set_cons_zero, List.set_cons_succ]
      refine readyOne (i := 0) (by kernel_rfl) rfl (fun K hK => ?_)
      go_simp
      refine hK.out _ _ ?_ (fun hHeld => ?_)
      · assumption
      clear hK K
      refine readyOne (i := 2) (by kernel_rfl) rfl (fun K hK => ?_)
      go_simp
      refine (keepS (fun w' : World => w'.cell? ⟨w.heap.size, 0, none⟩ = some (.int .i64 x.1) ∧ w'.cell? ⟨w.heap.size, 1, none⟩ = some (.int .i64 x.2) ∧ w'.cell? ⟨b, off + j * 2, none⟩ = some (.int .i64 c.1) ∧ w'.cell? ⟨b, off + j * 2 + 1, none⟩ = some (.int .i64 c.2) ∧ (∃ q : Ga.E, EBox w' (w.heap.size + 1 + 1) q) ∧ EBox w' w.heap.size x ∧ EBox w' (w.heap.size + 1) (0, 0) ∧ Below w.heap.size w w') hkp.out (pmul_eq H1.out _) (by assumption)).mono ?_
      rintro e w4 ⟨rfl, kS⟩
      refine hK.out _ _ kS (fun hHeld => ?_)
      clear hK K
      refine readyOne (i := 7) (by kernel_rfl) rfl (fun K hK => ?_)
      go_simp
      refine (keepS (fun w' : World => w'.cell? ⟨w.heap.size, 0, none⟩ = some (.int .i64 x.1) ∧ w'.cell? ⟨w.heap.size, 1, none⟩ = some (.int .i64 x.2) ∧ w'.cell? ⟨b, off + j * 2, none⟩ = some (.int .i64 c.1) ∧ w'.cell? ⟨b, off + j * 2 + 1, none⟩ = some (.int .i64 c.2) ∧ (∃ q : Ga.E, EBox w' (w.heap.size + 1 + 1) q) ∧ EBox w' w.heap.size x ∧ EBox w' (w.heap.size + 1) (0, 0) ∧ Below w.heap.size w w') hkp.out (padd_eq H2.out _) (by assumption)).mono ?_
      rintro e w5 ⟨rfl, kS⟩
      have kS' := kS
      obtain ⟨k0, k1, k2, k3, ⟨q0, hq0⟩, kx, kz, kb⟩ := kS'
      obtain ⟨d0, d1, f0, f1⟩ := hq0.facts
      refine hK.out _ _ kS (fun hHeld => ?_)
      clear hK K
      refine readyOne (i := 8) (by kernel_rfl) rfl (fun K hK => ?_)
      go_simp
      refine hK.out _ _ ?_ (fun hHeld => ?_)
      · exact ⟨(World.cell?_setCell_far _ _ _ _ (by simp; omega)).trans ((World.cell?_setCell_far _ _ _ _ (by simp; omega)).trans k0), (World.cell?_setCell_far _ _ _ _ (by simp; omega)).trans ((World.cell?_setCell_far _ _ _ _ (by simp; omega)).trans k1), (World.cell?_setCell_far _ _ _ _ (by simp; omega)).trans ((World.cell?_setCell_far _ _ _ _ (by simp; omega)).trans k2), (World.cell?_setCell_far _ _ _ _ (by simp; omega)).trans ((World.cell?_setCell_far _ _ _ _ (by simp; omega)).trans k3), ⟨s2, hq0.set s2.1 s2.2⟩, (kx.other _ 0 _ (by omega)).other _ 1 _ (by omega), (kz.other _ 0 _ (by omega)).other _ 1 _ (by omega), (kb.setCell (p := ⟨w.heap.size + 1 + 1, 0, none⟩) (by simp; omega) _).setCell (p := ⟨w.heap.size + 1 + 1, 1, none⟩) (by simp; omega) _⟩
      clear hK K
      refine wpAnyH_done (by kernel_rfl) ?_ _
      obtain ⟨_, _, _, _, _, hx2, hz2, hb2⟩ := hHeld
      go_wp2
      go_step3
      refine ⟨rfl, ⟨⟨j, s2, _, _, _, _, _, _, _, _, _, _, _, _, _, _, _, rfl, by omega, HN.out, hx2, hz2, hq0.set s2.1 s2.2, hb2⟩, by simp [intOf]⟩⟩

set_option maxHeartbeats 4000000 in
set_option maxRecDepth 100000 in
theorem reval_any (v : Value) (p : List Ga.E) (x : Ga.E) (w : World) (hv : FlatAt w v 2 (elems p)) (hlen : p.length ≤ 140737488351232) :
    Calls Try.prog 15 #[v, elv x] w fun e w' => e = .returned (elv (Sr.evalE p x)) ∧ Below w.heap.size w w' := by
  have hrow := Lib.hid (fun (w' : World) (hb : Below w.heap.size w w') (h0 : 0 < p.length) => elems_row hv hb h0)
  obtain ⟨av, cv, rfl⟩ := hv.len (n := p.length) (elems_len p) (by omega)
  clear hv
  go_enter Try.func15, Try.ntmps15
  go_wp2_with fail
  have hx := ((EBox.new w x.1 x.2).alloc (.cells #[.int .i64 0, .int .i64 0] 24)).alloc (.cells #[.int .i64 0, .int .i64 0] 24)
  have hz := (EBox.new (w.alloc (.cells #[.int .i64 x.1, .int .i64 x.2] 24)) 0 0).alloc (.cells #[.int .i64 0, .int .i64 0] 24)
  have hs := EBox.new ((w.alloc (.cells #[.int .i64 x.1, .int .i64 x.2] 24)).alloc (.cells #[.int .i64 0, .int .i64 0] 24)) 0 0
  have hb : Below w.heap.size w (((w.alloc (.cells #[.int .i64 x.1, .int .i64 x.2] 24)).alloc (.cells #[.int .i64 0, .int .i64 0] 24)).alloc (.cells #[.int .i64 0, .int .i64 0] 24)) := by
    refine Below.alloc (Below.alloc (Below.alloc (Below.refl _ _) ?_ _) ?_ _) ?_ _ <;> (first | exact Nat.le_refl _ | (simp only [World.size_alloc]; omega))
  simp only [World.size_alloc] at hz hs
  have hend := Lib.hid (Sr.evalE_end p x)
  go_loopw [6] (fun i wr => ∃ (m : Nat) (z : Int) (s : Ga.E), i = .int .i64 z ∧ z + 1 = m ∧ m ≤ p.length ∧ Sr.evalE (p.drop m) x = s ∧ EBox wr w.heap.size x ∧ EBox wr (w.heap.size + 1) (0, 0) ∧ EBox wr (w.heap.size + 1 + 1) s ∧ Below w.heap.size w wr) (fun i _ => (intOf i + 1).toNat)
  case atStart => exact ⟨p.length, _, _, rfl, by omega, Nat.le_refl _, hend.out, hx, hz, hs, hb⟩
  case round =>
    clear hx hz hs hb
    obtain ⟨m, z, s, rfl, hzm, hml, hm, hx, hz, hs, hb⟩ := hrel
    by_cases h0 : m = 0
    · subst h0
      have t0 : decide (0 ≤ z) = false := by rw [decide_eq_false_iff_not]; omega
      obtain ⟨c20, c21, _, _⟩ := hs.facts
      obtain ⟨_, _, f0, f1⟩ := hz.facts
      rw [List.drop_zero] at hm
      clear hrow hzm
      go_wp2
      refine bodyPost_ret (v := elv s) ?_ rfl ⟨by rw [← hm], ?_⟩
      · obtain ⟨d0, d1, _, _⟩ := (hz.set s.1 s.2).facts
        simp [results, Try.f15, go_sem, d0, d1]
      · exact (hb.setCell (p := ⟨w.heap.size + 1, 0, none⟩) (by simp) _).setCell (p := ⟨w.heap.size + 1, 1, none⟩) (by simp) _
    · obtain ⟨b, off, cap, hv, hblt, hc⟩ := hrow.out _ hb (by omega)
      injection hv with e1 _ e2
      subst e1 e2
      obtain ⟨j, rfl⟩ : ∃ j, m = j + 1 := ⟨m - 1, by omega⟩
      obtain rfl : z = (j : Int) := by omega
      obtain ⟨c2, c3⟩ := hc j (by omega)
      have hnext := Sr.evalE_drop p x j (by omega)
      rw [hm] at hnext
      obtain ⟨c, hcj⟩ : ∃ c, p[j] = c := ⟨_, rfl⟩
      rw [hcj] at c2 c3 hnext
      obtain ⟨s1, hs1⟩ : ∃ z, Ga.mul s x = z := ⟨_, rfl⟩
      obtain ⟨s2, hs2⟩ : ∃ z, Ga.add s1 c = z := ⟨_, rfl⟩
      rw [hs1, hs2] at hnext
      have HN := Lib.hid hnext
      have H1 := Lib.hid hs1
      have H2 := Lib.hid hs2
      obtain ⟨k0, k1, _, _⟩ := hx.facts
      obtain ⟨c50, c51, f50, f51⟩ := hs.facts
      have hS0 : (fun w' : World => w'.cell? ⟨w.heap.size, 0, none⟩ = some (.int .i64 x.1) ∧ w'.cell? ⟨w.heap.size, 1, none⟩ = some (.int .i64 x.2) ∧ w'.cell? ⟨b, off + j * 2, none⟩ = some (.int .i64 c.1) ∧ w'.cell? ⟨b, off + j * 2 + 1, none⟩ = some (.int .i64 c.2) ∧ (∃ q : Ga.E, EBox w' (w.heap.size + 1 + 1) q) ∧ EBox w' w.heap.size x ∧ EBox w' (w.heap.size + 1) (0, 0) ∧ Below w.heap.size w w') _ := ⟨k0, k1, c2, c3, ⟨s, hs⟩, hx, hz, hb⟩
      have hkp := Lib.hid (show ∀ A1 A2 : World, (fun w' : World => w'.cell? ⟨w.heap.size, 0, none⟩ = some (.int .i64 x.1) ∧ w'.cell? ⟨w.heap.size, 1, none⟩ = some (.int .i64 x.2) ∧ w'.cell? ⟨b, off + j * 2, none⟩ = some (.int .i64 c.1) ∧ w'.cell? ⟨b, off + j * 2 + 1, none⟩ = some (.int .i64 c.2) ∧ (∃ q : Ga.E, EBox w' (w.heap.size + 1 + 1) q) ∧ EBox w' w.heap.size x ∧ EBox w' (w.heap.size + 1) (0, 0) ∧ Below w.heap.size w w') A1 → Below A1.heap.size A1 A2 → (fun w' : World => w'.cell? ⟨w.heap.size, 0, none⟩ = some (.int .i64 x.1) ∧ w'.cell? ⟨w.heap.size, 1, none⟩ = some (.int .i64 x.2) ∧ w'.cell? ⟨b, off + j * 2, none⟩ = some (.int .i64 c.1) ∧ w'.cell? ⟨b, off + j * 2 + 1, none⟩ = some (.int .i64 c.2) ∧ (∃ q : Ga.E, EBox w' (w.heap.size + 1 + 1) q) ∧ EBox w' w.heap.size x ∧ EBox w' (w.heap.size + 1) (0, 0) ∧ Below w.heap.size w w') A2 from fun A1 A2 ⟨k0, k1, k2, k3, ⟨q, kq⟩, kx, kz, kb⟩ h => ⟨below_cell h k0, below_cell h k1, below_cell h k2, below_cell h k3, ⟨q, kq.kept h⟩, kx.kept h, kz.kept h, kb.trans (h.mono kb.size)⟩)
      have t0 : decide ((0 : Int) ≤ (j : Int)) = true := by rw [decide_eq_true_iff]; omega
      have t2 : (j : Int) < (p.length : Int) := by omega
      have hjl : j < p.length := by omega
      have hML := Lib.hid hlen
      clear hc hm hcj hnext hs1 hs2 hrow hz hb hzm
      go_wp2_with fail
      refine wp_region_held_drew (S := (fun w' : World => w'.cell? ⟨w.heap.size, 0, none⟩ = some (.int .i64 x.1) ∧ w'.cell? ⟨w.heap.size, 1, none⟩ = some (.int .i64 x.2) ∧ w'.cell? ⟨b, off + j * 2, none⟩ = some (.int .i64 c.1) ∧ w'.cell? ⟨b, off + j * 2 + 1, none⟩ = some (.int .i64 c.2) ∧ (∃ q : Ga.E, EBox w' (w.heap.size + 1 + 1) q) ∧ EBox w' w.heap.size x ∧ EBox w' (w.heap.size + 1) (0, 0) ∧ Below w.heap.size w w')) (by kernel_rfl) ?_ (fun hHeld => ?_)
      · exact hkp.out _ _ hS0 (Below.drew (Below.refl _ _))
      refine takeW (i := 1) (v := ?_) rfl (by kernel_rfl) (by kernel_rfl) (by kernel_rfl) (fun _ _ _ h => h) (by rfl) ?_ (by assumption) ?_
      rotate_left
      focus (intro w hSw; (try dsimp only at hSw); go_simp; try (with_reducible rfl))
      simp only [Act.put, List.setIfInBounds_toArray, List.set_cons_zero, List.set_cons_succ]
      refine takeW (i := 3) (v := ?_) rfl (by kernel_rfl) (by kernel_rfl) (by kernel_rfl) (fun _ _ _ h => h) (by rfl) ?_ (by assumption) ?_
      rotate_left
      focus (intro w hSw; (try dsimp only at hSw); go_simp; try (with_reducible rfl))
      simp only [Act.put, List.setIfInBounds_toArray, List.set_cons_zero, List.set_cons_succ]
      refine takeW (i := 4) (v := ?_) rfl (by kernel_rfl) (by kernel_rfl) (by kernel_rfl) (fun _ _ _ h => h) (by rfl) ?_ (by assumption) ?_
      rotate_left
      focus (intro w hSw; (try dsimp only at hSw); go_simp; try (with_reducible rfl))
      simp only [Act.put, List.setIfInBounds_toArray, List.set_cons_zero, List.set_cons_succ]
      refine takeW (i := 5) (v := ?_) rfl (by kernel_rfl) (by kernel_rfl) (by kernel_rfl) (fun _ _ _ h => h) (by rfl) ?_ (by assumption) ?_
      rotate_left
      focus (intro w hSw; (try dsimp only at hSw); go_simp; try (with_reducible rfl))
      simp only [Act.put, List.setIfInBounds_toArray, List.set_cons_zero, List.set_cons_succ]
      refine takeW (i := 6) (v := ?_) rfl (by kernel_rfl) (by kernel_rfl) (by kernel_rfl) (fun _ _ _ h => h) (by rfl) ?_ (by assumption) ?_
      rotate_left
      focus (intro w hSw; (try dsimp only at hSw); go_simp; try (with_reducible rfl))
      simp only [Act.put, List.setIfInBounds_toArray, List.set_cons_zero, List.set_cons_succ]
      refine readyOne (i := 0) (by kernel_rfl) rfl (fun K hK => ?_)
      go_simp
      refine hK.out _ _ ?_ (fun hHeld => ?_)
      · assumption
      clear hK K
      refine readyOne (i := 2) (by kernel_rfl) rfl (fun K hK => ?_)
      go_simp
      refine (keepS (fun w' : World => w'.cell? ⟨w.heap.size, 0, none⟩ = some (.int .i64 x.1) ∧ w'.cell? ⟨w.heap.size, 1, none⟩ = some (.int .i64 x.2) ∧ w'.cell? ⟨b, off + j * 2, none⟩ = some (.int .i64 c.1) ∧ w'.cell? ⟨b, off + j * 2 + 1, none⟩ = some (.int .i64 c.2) ∧ (∃ q : Ga.E, EBox w' (w.heap.size + 1 + 1) q) ∧ EBox w' w.heap.size x ∧ EBox w' (w.heap.size + 1) (0, 0) ∧ Below w.heap.size w w') hkp.out (rmul_eq H1.out _) (by assumption)).mono ?_
      rintro e w4 ⟨rfl, kS⟩
      refine hK.out _ _ kS (fun hHeld => ?_)
      clear hK K
      refine readyOne (i := 7) (by kernel_rfl) rfl (fun K hK => ?_)
      go_simp
      refine (keepS (fun w' : World => w'.cell? ⟨w.heap.size, 0, none⟩ = some (.int .i64 x.1) ∧ w'.cell? ⟨w.heap.size, 1, none⟩ = some (.int .i64 x.2) ∧ w'.cell? ⟨b, off + j * 2, none⟩ = some (.int .i64 c.1) ∧ w'.cell? ⟨b, off + j * 2 + 1, none⟩ = some (.int .i64 c.2) ∧ (∃ q : Ga.E, EBox w' (w.heap.size + 1 + 1) q) ∧ EBox w' w.heap.size x ∧ EBox w' (w.heap.size + 1) (0, 0) ∧ Below w.heap.size w w') hkp.out (radd_eq H2.out _) (by assumption)).mono ?_
      rintro e w5 ⟨rfl, kS⟩
      have kS' := kS
      obtain ⟨k0, k1, k2, k3, ⟨q0, hq0⟩, kx, kz, kb⟩ := kS'
      obtain ⟨d0, d1, f0, f1⟩ := hq0.facts
      refine hK.out _ _ kS (fun hHeld => ?_)
      clear hK K
      refine readyOne (i := 8) (by kernel_rfl) rfl (fun K hK => ?_)
      go_simp
      refine hK.out _ _ ?_ (fun hHeld => ?_)
      · exact ⟨(World.cell?_setCell_far _ _ _ _ (by simp; omega)).trans ((World.cell?_setCell_far _ _ _ _ (by simp; omega)).trans k0), (World.cell?_setCell_far _ _ _ _ (by simp; omega)).trans ((World.cell?_setCell_far _ _ _ _ (by simp; omega)).trans k1), (World.cell?_setCell_far _ _ _ _ (by simp; omega)).trans ((World.cell?_setCell_far _ _ _ _ (by simp; omega)).trans k2), (World.cell?_setCell_far _ _ _ _ (by simp; omega)).trans ((World.cell?_setCell_far _ _ _ _ (by simp; omega)).trans k3), ⟨s2, hq0.set s2.1 s2.2⟩, (kx.other _ 0 _ (by omega)).other _ 1 _ (by omega), (kz.other _ 0 _ (by omega)).other _ 1 _ (by omega), (kb.setCell (p := ⟨w.heap.size + 1 + 1, 0, none⟩) (by simp; omega) _).setCell (p := ⟨w.heap.size + 1 + 1, 1, none⟩) (by simp; omega) _⟩
      clear hK K
      refine wpAnyH_done (by kernel_rfl) ?_ _
      obtain ⟨_, _, _, _, _, hx2, hz2, hb2⟩ := hHeld
      go_wp2
      go_roundw
      case rel => exact ⟨j, (j : Int) - 1, s2, rfl, by omega, by omega, HN.out, hx2, hz2, hq0.set s2.1 s2.2, hb2⟩
      case measure => simp [intOf]
end Go.Proofs.Ytngmkokmomficaa
