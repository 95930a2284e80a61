/- What shares open: the program's Weight and Open. (Written by gen-shopen.py.) -/
import Derived.Test.YtngmkokmomficaaShWeigh
namespace Go.Proofs.Ytngmkokmomficaa
open Go.RowKit
attribute [local go_sem] build_el build_el0 build_el1

theorem weightE_bad (l : List Sr.Shr) (k : Int) (h : k < 0 ∨ (l.length : Int) ≤ k ∨ Sr.apart (Sr.ids l) = false) : Sr.weightE l k = ((0, 0), 1) := by
  rw [Sr.weightE, if_neg]
  rw [Bool.and_eq_true, decide_eq_true_iff]
  rintro ⟨⟨h1, h2⟩, h3⟩
  rcases h with h | h | h
  · omega
  · omega
  · rw [h3] at h; cases h
theorem weightE_good (l : List Sr.Shr) (k : Nat) (hk : k < l.length) (ha : Sr.apart (Sr.ids l) = true) : Sr.weightE l k = (Sr.wtE (Sr.ids l) k, 0) := by
  rw [Sr.weightE, if_pos, Int.toNat_natCast]
  rw [ha, Bool.and_true, decide_eq_true_iff]
  omega
set_option maxHeartbeats 4000000 in
set_option maxRecDepth 100000 in
theorem pweight_any (v : Value) (l : List Sr.Shr) (k : Int) (w : World) (hv : FlatAt w v 3 (shrs l)) (hlen : l.length ≤ 140737488351232) (hw : Wide l) :
    Calls Try.prog 18 #[v, .int .i64 k] w fun e w' => e = .returned (.tuple #[elv (Sr.weightE l k).1, .int .i64 (Sr.weightE l k).2]) ∧ Below w.heap.size w w' := by
  have hap := Lib.hid (fun (W : World) (hb : Below w.heap.size w W) => papart_any v l W (hv.below hb) hlen hw)
  have hwe := Lib.hid (fun (W : World) (hb : Below w.heap.size w W) (j : Nat) (hj : j < l.length) => pweigh_any v l j W (hv.below hb) hlen hj)
  obtain ⟨av, cv, rfl⟩ := hv.len (n := l.length) (shrs_len l) (by omega)
  have hb0 : Below w.heap.size w (w.alloc (.cells #[.int .i64 0, .int .i64 0] 24)) := (Below.refl _ _).alloc (Nat.le_refl _) _
  have hz0 := EBox.new w 0 0
  by_cases h1 : k < 0
  · rw [weightE_bad l k (.inl h1)]
    have t1 : decide (k < (0 : Int)) = true := decide_eq_true h1
    clear hv hw h1
    go_enter Try.func18, Try.ntmps18
    go_wp2
    refine bodyPost_ret (v := .tuple #[el 0 0, .int .i64 1]) ?_ rfl ⟨rfl, hb0⟩
    simp [results, Try.f18, go_sem]
  have t1 : decide (k < (0 : Int)) = false := decide_eq_false h1
  by_cases h2 : (l.length : Int) ≤ k
  · rw [weightE_bad l k (.inr (.inl h2))]
    have t2 : decide ((l.length : Int) ≤ k) = true := decide_eq_true h2
    clear hv hw h1 h2
    go_enter Try.func18, Try.ntmps18
    go_wp2
    refine bodyPost_ret (v := .tuple #[el 0 0, .int .i64 1]) ?_ rfl ⟨rfl, hb0⟩
    simp [results, Try.f18, go_sem]
  obtain ⟨j, rfl⟩ : ∃ j : Nat, k = (j : Int) := ⟨k.toNat, by omega⟩
  have hj : j < l.length := by omega
  have t2 : decide ((l.length : Int) ≤ (j : Int)) = false := decide_eq_false h2
  clear h1 h2
  cases ha : Sr.apart (Sr.ids l) with
  | false =>
    rw [weightE_bad l j (.inr (.inr ha))]
    rw [ha] at hap
    clear hv hw ha
    go_enter Try.func18, Try.ntmps18
    go_wp2_with fail
    refine (hap.out _ hb0).mono ?_
    rintro e w1 ⟨rfl, h1⟩
    have hz1 := hz0.kept h1
    have hb1 := hb0.trans (h1.mono hb0.size)
    obtain ⟨z0, z1, f0, f1⟩ := hz1.facts
    go_wp2
    refine bodyPost_ret (v := .tuple #[elv ((0, 0) : Ga.E), .int .i64 1]) ?_ rfl ⟨rfl, ?_⟩
    · obtain ⟨d0, d1, _, _⟩ := (hz1.set ((0, 0) : Ga.E).1 ((0, 0) : Ga.E).2).facts
      simp [results, Try.f18, go_sem, d0, d1]
    · exact (hb1.setCell (p := ⟨w.heap.size, 0, none⟩) (by simp) _).setCell (p := ⟨w.heap.size, 1, none⟩) (by simp) _
  | true =>
    rw [weightE_good l j hj ha]
    rw [ha] at hap
    obtain ⟨R, hR⟩ : ∃ R, Sr.wtE (Sr.ids l) j = R := ⟨_, rfl⟩
    have hwj := Lib.hid (fun (W : World) (hb : Below w.heap.size w W) => hwe.out W hb j hj)
    rw [hR] at hwj ⊢
    clear hv hw ha hR hwe
    go_enter Try.func18, Try.ntmps18
    go_wp2_with fail
    refine (hap.out _ hb0).mono ?_
    rintro e w1 ⟨rfl, h1⟩
    have hz1 := hz0.kept h1
    have hb1 := hb0.trans (h1.mono hb0.size)
    go_wp2_with fail
    refine (hwj.out _ hb1).mono ?_
    rintro e w2 ⟨rfl, h2⟩
    have hz2 := hz1.kept h2
    have hb2 := hb1.trans (h2.mono hb1.size)
    clear h1 hz1 hb1 h2 hz0 hb0
    obtain ⟨z0, z1, f0, f1⟩ := hz2.facts
    go_wp2
    refine bodyPost_ret (v := .tuple #[elv R, .int .i64 0]) ?_ rfl ⟨rfl, ?_⟩
    · obtain ⟨d0, d1, _, _⟩ := (hz2.set R.1 R.2).facts
      simp [results, Try.f18, go_sem, d0, d1]
    · exact (hb2.setCell (p := ⟨w.heap.size, 0, none⟩) (by simp) _).setCell (p := ⟨w.heap.size, 1, none⟩) (by simp) _

theorem openE_bad (l : List Sr.Shr) (h : l = [] ∨ Sr.apart (Sr.ids l) = false ∨ l.all (fun s => Ga.ok s.2) = false) : Sr.openE l = ((0, 0), 1) := by
  rw [Sr.openE, if_neg]
  simp only [Bool.and_eq_true, decide_eq_true_iff]
  rintro ⟨⟨h1, h2⟩, h3⟩
  rcases h with h | h | h
  · exact h1 h
  · rw [h2] at h; cases h
  · rw [h3] at h; cases h
theorem openE_good (l : List Sr.Shr) (h : l ≠ []) (ha : Sr.apart (Sr.ids l) = true) (hv : l.all (fun s => Ga.ok s.2) = true) : Sr.openE l = (Sr.sumE l l.length, 0) := by
  rw [Sr.openE, if_pos]
  rw [ha, hv, decide_eq_true h]; rfl
theorem alls_take (l : List Sr.Shr) (k : Nat) (h : k < l.length) : (l.take (k + 1)).all (fun s => Ga.ok s.2) = ((l.take k).all (fun s => Ga.ok s.2) && Ga.ok l[k].2) := by
  rw [List.take_succ_eq_append_getElem h, List.all_append]; simp
set_option maxHeartbeats 8000000 in
set_option maxRecDepth 100000 in
theorem popen_any (v : Value) (l : List Sr.Shr) (w : World) (hv : FlatAt w v 3 (shrs l)) (hlen : l.length ≤ 140737488351232) (hw : Wide l) :
    Calls Try.prog 16 #[v] w fun e w' => e = .returned (.tuple #[elv (Sr.openE l).1, .int .i64 (Sr.openE l).2]) ∧ Below w.heap.size w w' := by
  have hap := Lib.hid (fun (W : World) (hb : Below w.heap.size w W) => papart_any v l W (hv.below hb) hlen hw)
  have hwe := Lib.hid (fun (W : World) (hb : Below w.heap.size w W) (j : Nat) (hj : j < l.length) => pweigh_any v l j W (hv.below hb) hlen hj)
  have hrow := Lib.hid (fun (w' : World) (hb : Below w.heap.size w w') (h0 : 0 < l.length) => shrs_row hv hb h0)
  obtain ⟨av, cv, rfl⟩ := hv.len (n := l.length) (shrs_len l) (by omega)
  have hb0 : Below w.heap.size w (w.alloc (.cells #[.int .i64 0, .int .i64 0] 24)) := (Below.refl _ _).alloc (Nat.le_refl _) _
  have hz0 := EBox.new w 0 0
  by_cases h0 : l.length = 0
  · rw [openE_bad l (.inl (List.length_eq_zero_iff.1 h0))]
    have t1 : ((l.length : Int) == 0) = true := by rw [beq_iff_eq]; omega
    clear hv hw h0
    go_enter Try.func16, Try.ntmps16
    go_wp2
    refine bodyPost_ret (v := .tuple #[el 0 0, .int .i64 1]) ?_ rfl ⟨rfl, hb0⟩
    simp [results, Try.f16, go_sem]
  have t1 : ((l.length : Int) == 0) = false := by rw [beq_eq_false_iff_ne]; omega
  have hne : l ≠ [] := fun e => h0 (by rw [e]; rfl)
  cases ha : Sr.apart (Sr.ids l) with
  | false =>
    rw [openE_bad l (.inr (.inl ha))]
    rw [ha] at hap
    clear hv hw ha hne h0
    go_enter Try.func16, Try.ntmps16
    go_wp2_with fail
    refine (hap.out _ hb0).mono ?_
    rintro e w1 ⟨rfl, h1⟩
    have hz1 := hz0.kept h1
    have hb1 := hb0.trans (h1.mono hb0.size)
    obtain ⟨z0, z1, f0, f1⟩ := hz1.facts
    go_wp2
    refine bodyPost_ret (v := .tuple #[elv ((0, 0) : Ga.E), .int .i64 1]) ?_ rfl ⟨rfl, ?_⟩
    · obtain ⟨d0, d1, _, _⟩ := (hz1.set ((0, 0) : Ga.E).1 ((0, 0) : Ga.E).2).facts
      simp [results, Try.f16, go_sem, d0, d1]
    · exact (hb1.setCell (p := ⟨w.heap.size, 0, none⟩) (by simp) _).setCell (p := ⟨w.heap.size, 1, none⟩) (by simp) _
  | true =>
    have hbad := Lib.hid (show l.all (fun s => Ga.ok s.2) = false → Sr.openE l = ((0, 0), 1) from fun h => openE_bad l (.inr (.inr h)))
    have hgood := Lib.hid (show l.all (fun s => Ga.ok s.2) = true → Sr.openE l = (Sr.sumE l l.length, 0) from fun h => openE_good l hne ha h)
    rw [ha] at hap
    obtain ⟨R, hR⟩ : ∃ R, Sr.openE l = R := ⟨_, rfl⟩
    rw [hR] at hbad hgood ⊢
    have HT := Lib.hid (alls_take l)
    have HSUM := Lib.hid (show ∀ k (h : k < l.length), Sr.sumE l (k + 1) = Ga.add (Sr.sumE l k) (Ga.mul l[k].2 (Sr.wtE (Sr.ids l) k)) from fun k h => by rw [Sr.sumE, Sr.getD_at _ _ h])
    clear hv hw ha hR hne h0
    go_enter Try.func16, Try.ntmps16
    go_wp2_with fail
    refine (hap.out _ hb0).mono ?_
    rintro e w1 ⟨rfl, h1⟩
    have hz1 := hz0.kept h1
    have hb1 := hb0.trans (h1.mono hb0.size)
    clear h1 hz0 hb0
    obtain ⟨B, hB⟩ : ∃ B, w1.heap.size = B := ⟨_, rfl⟩
    have hBl : w.heap.size < B := by rw [← hB]; exact hz1.lt
    have hs1 := EBox.new w1 0 0
    rw [hB] at hs1
    have hz2 := hz1.alloc (.cells #[.int .i64 0, .int .i64 0] 24)
    have hb2 := hb1.alloc hb1.size (.cells #[.int .i64 0, .int .i64 0] 24)
    clear hz1 hb1
    go_wp2_with fail
    clear hB
    go_loopw [17] (fun i wr => ∃ k : Nat, i = .int .i64 k ∧ k ≤ l.length ∧ (l.take k).all (fun s => Ga.ok s.2) = true ∧ EBox wr w.heap.size (0, 0) ∧ EBox wr B (Sr.sumE l k) ∧ Below w.heap.size w wr) (fun i _ => l.length - (intOf i).toNat)
    case atStart => exact ⟨0, rfl, by omega, rfl, hz2, hs1, hb2⟩
    case round =>
      clear hz2 hs1 hb2
      obtain ⟨k, rfl, hk, hall, hz, hs, hb⟩ := hrel
      have HALL := Lib.hid hall
      clear hall
      by_cases hlt : k < l.length
      · obtain ⟨b, off, cap, hv, hblt, hc⟩ := hrow.out _ hb (by omega)
        injection hv with e1 _ e2
        subst e1 e2
        obtain ⟨_, c1, c2⟩ := hc k hlt
        have hn := HT.out k hlt
        rw [HALL.out, Bool.true_and] at hn
        have hsum := HSUM.out k hlt
        have hwk := Lib.hid (fun (W : World) (hb : Below w.heap.size w W) => hwe.out W hb k hlt)
        obtain ⟨c, hck⟩ : ∃ c, l[k].2 = c := ⟨_, rfl⟩
        rw [hck] at c1 c2 hn hsum
        have HM' := Lib.hid (show ∃ s ∈ l, s.2 = c from ⟨l[k], List.getElem_mem hlt, hck⟩)
        have ti : (k : Int) < (l.length : Int) := by omega
        clear hc hck hrow
        cases hok : Ga.ok c with
        | false =>
          have hr : R = ((0, 0), 1) := hbad.out (by rw [List.all_eq_false]; obtain ⟨s, h1, h2⟩ := HM'.out; exact ⟨s, h1, by rw [h2, hok]; simp⟩)
          subst hr
          have HK := Lib.hid hok
          clear hok hn hsum hgood hbad
          go_wp2_with fail
          refine (s_may HK.out _).mono ?_
          rintro e w2 ⟨rfl, h2⟩
          have hz2 := hz.kept h2
          have hb2 := hb.trans (h2.mono hb.size)
          obtain ⟨z0, z1, f0, f1⟩ := hz2.facts
          clear hz hs hb h2
          go_wp2
          refine bodyPost_ret (v := .tuple #[elv ((0, 0) : Ga.E), .int .i64 1]) ?_ rfl ⟨rfl, ?_⟩
          · obtain ⟨d0, d1, _, _⟩ := (hz2.set ((0, 0) : Ga.E).1 ((0, 0) : Ga.E).2).facts
            simp [results, Try.f16, go_sem, d0, d1]
          · exact (hb2.setCell (p := ⟨w.heap.size, 0, none⟩) (by simp) _).setCell (p := ⟨w.heap.size, 1, none⟩) (by simp) _
        | true =>
          have HK := Lib.hid hok
          have HN := Lib.hid (hn.trans hok)
          obtain ⟨u1, hu1⟩ : ∃ z, Sr.sumE l k = z := ⟨_, rfl⟩
          obtain ⟨x, hx⟩ : ∃ z, Sr.wtE (Sr.ids l) k = z := ⟨_, rfl⟩
          rw [hu1] at hs
          rw [hu1, hx] at hsum
          rw [hx] at hwk
          obtain ⟨m, hm⟩ : ∃ z, Ga.mul c x = z := ⟨_, rfl⟩
          obtain ⟨u2, hu2⟩ : ∃ z, Ga.add u1 m = z := ⟨_, rfl⟩
          rw [hm, hu2] at hsum
          have HS2 := Lib.hid hsum
          have H1 := Lib.hid hm
          have H2 := Lib.hid hu2
          clear hok hn hsum hx hm hu2 hu1 hwe
          go_wp2_with fail
          refine (s_may HK.out _).mono ?_
          rintro e w2 ⟨rfl, h2⟩
          have hz2 := hz.kept h2
          have hs2 := hs.kept h2
          have hb2 := hb.trans (h2.mono hb.size)
          have v1 := below_cell h2 c1
          have v2 := below_cell h2 c2
          clear hz hs hb h2 c1 c2
          obtain ⟨d0, d1, _, _⟩ := hs2.facts
          have hud : EBox w2.drew B u1 := hs2
          have hS0 : (fun w' : World => w'.cell? ⟨b, off + k * 3 + 1, none⟩ = some (.int .i64 c.1) ∧ w'.cell? ⟨b, off + k * 3 + 1 + 1, none⟩ = some (.int .i64 c.2) ∧ (∃ q : Ga.E, EBox w' (B) q) ∧ EBox w' (w.heap.size) (0, 0) ∧ Below w.heap.size w w') w2 := ⟨v1, v2, ⟨u1, hs2⟩, hz2, hb2⟩
          have hkp := Lib.hid (show ∀ A1 A2 : World, (fun w' : World => w'.cell? ⟨b, off + k * 3 + 1, none⟩ = some (.int .i64 c.1) ∧ w'.cell? ⟨b, off + k * 3 + 1 + 1, none⟩ = some (.int .i64 c.2) ∧ (∃ q : Ga.E, EBox w' (B) q) ∧ EBox w' (w.heap.size) (0, 0) ∧ Below w.heap.size w w') A1 → Below A1.heap.size A1 A2 → (fun w' : World => w'.cell? ⟨b, off + k * 3 + 1, none⟩ = some (.int .i64 c.1) ∧ w'.cell? ⟨b, off + k * 3 + 1 + 1, none⟩ = some (.int .i64 c.2) ∧ (∃ q : Ga.E, EBox w' (B) q) ∧ EBox w' (w.heap.size) (0, 0) ∧ Below w.heap.size w w') A2 from fun A1 A2 ⟨k0, k1, ⟨q, kq⟩, m0, kb⟩ h => ⟨below_cell h k0, below_cell h k1, ⟨q, kq.kept h⟩, m0.kept h, kb.trans (h.mono kb.size)⟩)
          clear hz2 hb2
          go_wp2_with fail
          refine wp_region_held_drew (S := (fun w' : World => w'.cell? ⟨b, off + k * 3 + 1, none⟩ = some (.int .i64 c.1) ∧ w'.cell? ⟨b, off + k * 3 + 1 + 1, none⟩ = some (.int .i64 c.2) ∧ (∃ q : Ga.E, EBox w' (B) q) ∧ EBox w' (w.heap.size) (0, 0) ∧ Below w.heap.size w w')) (by kernel_rfl) ?_ (fun hHeld => ?_)
          · exact hkp.out _ _ hS0 (Below.drew (Below.refl _ _))
          refine takeW (i := 1) (v := ?_) rfl (by kernel_rfl) (by kernel_rfl) (by kernel_rfl) (fun _ _ _ h => h) (by rfl) ?_ (by assumption) ?_
          rotate_left
          focus (intro w hSw; (try dsimp only at hSw); go_simp; try (with_reducible rfl))
          simp only [Act.put, List.setIfInBounds_toArray, List.set_cons_zero, List.set_cons_succ]
          refine takeW (i := 2) (v := ?_) rfl (by kernel_rfl) (by kernel_rfl) (by kernel_rfl) (fun _ _ _ h => h) (by rfl) ?_ (by assumption) ?_
          rotate_left
          focus (intro w hSw; (try dsimp only at hSw); go_simp; try (with_reducible rfl))
          simp only [Act.put, List.setIfInBounds_toArray, List.set_cons_zero, List.set_cons_succ]
          refine takeW (i := 6) (v := ?_) rfl (by kernel_rfl) (by kernel_rfl) (by kernel_rfl) (fun _ _ _ h => h) (by rfl) ?_ (by assumption) ?_
          rotate_left
          focus (intro w hSw; (try dsimp only at hSw); go_simp; try (with_reducible rfl))
          simp only [Act.put, List.setIfInBounds_toArray, List.set_cons_zero, List.set_cons_succ]
          refine takeW (i := 7) (v := ?_) rfl (by kernel_rfl) (by kernel_rfl) (by kernel_rfl) (fun _ _ _ h => h) (by rfl) ?_ (by assumption) ?_
          rotate_left
          focus (intro w hSw; (try dsimp only at hSw); go_simp; try (with_reducible rfl))
          simp only [Act.put, List.setIfInBounds_toArray, List.set_cons_zero, List.set_cons_succ]
          refine takeW (i := 3) (v := ?_) rfl (by kernel_rfl) (by kernel_rfl) (by kernel_rfl) (fun _ _ _ h => h) (by rfl) ?_ (by assumption) ?_
          rotate_left
          focus (intro w hSw; (try dsimp only at hSw); go_simp; try (with_reducible rfl))
          simp only [Act.put, List.setIfInBounds_toArray, List.set_cons_zero, List.set_cons_succ]
          refine takeW (i := 4) (v := ?_) rfl (by kernel_rfl) (by kernel_rfl) (by kernel_rfl) (fun _ _ _ h => h) (by rfl) ?_ (by assumption) ?_
          rotate_left
          focus (intro w hSw; (try dsimp only at hSw); go_simp; try (with_reducible rfl))
          simp only [Act.put, List.setIfInBounds_toArray, List.set_cons_zero, List.set_cons_succ]
          refine takeW (i := 5) (v := ?_) rfl (by kernel_rfl) (by kernel_rfl) (by kernel_rfl) (fun _ _ _ h => h) (by rfl) ?_ (by assumption) ?_
          rotate_left
          focus (intro w hSw; (try dsimp only at hSw); go_simp; try (with_reducible rfl))
          simp only [Act.put, List.setIfInBounds_toArray, List.set_cons_zero, List.set_cons_succ]
          refine readyTwo (i := 0) (j := 8) (by kernel_rfl) rfl rfl (fun K hK => ?_) (fun K hK => ?_)
          · go_simp
            refine hK.out _ _ ?_ (fun hHeld => ?_)
            · assumption
            clear hK K
            refine readyOne (i := 8) (by kernel_rfl) rfl (fun K hK => ?_)
            go_simp
            refine (keepSU (fun w' : World => w'.cell? ⟨b, off + k * 3 + 1, none⟩ = some (.int .i64 c.1) ∧ w'.cell? ⟨b, off + k * 3 + 1 + 1, none⟩ = some (.int .i64 c.2) ∧ (∃ q : Ga.E, EBox w' (B) q) ∧ EBox w' (w.heap.size) (0, 0) ∧ Below w.heap.size w w') hkp.out (by assumption) (hwk.out _ hHeld.2.2.2.2) (by assumption)).mono ?_
            rintro e w4 ⟨rfl, kS, hu4⟩
            obtain ⟨d0, d1, _, _⟩ := hu4.facts
            refine hK.out _ _ kS (fun hHeld => ?_)
            clear hK K
            refine readyOne (i := 9) (by kernel_rfl) rfl (fun K hK => ?_)
            go_simp
            refine (keepSU (fun w' : World => w'.cell? ⟨b, off + k * 3 + 1, none⟩ = some (.int .i64 c.1) ∧ w'.cell? ⟨b, off + k * 3 + 1 + 1, none⟩ = some (.int .i64 c.2) ∧ (∃ q : Ga.E, EBox w' (B) q) ∧ EBox w' (w.heap.size) (0, 0) ∧ Below w.heap.size w w') hkp.out (by assumption) (pmul_eq H1.out _) (by assumption)).mono ?_
            rintro e w4 ⟨rfl, kS, hu4⟩
            obtain ⟨d0, d1, _, _⟩ := hu4.facts
            refine hK.out _ _ kS (fun hHeld => ?_)
            clear hK K
            refine readyOne (i := 10) (by kernel_rfl) rfl (fun K hK => ?_)
            go_simp
            refine (keepS (fun w' : World => w'.cell? ⟨b, off + k * 3 + 1, none⟩ = some (.int .i64 c.1) ∧ w'.cell? ⟨b, off + k * 3 + 1 + 1, none⟩ = some (.int .i64 c.2) ∧ (∃ q : Ga.E, EBox w' (B) q) ∧ EBox w' (w.heap.size) (0, 0) ∧ Below w.heap.size w w') hkp.out (padd_eq H2.out _) (by assumption)).mono ?_
            rintro e w5 ⟨rfl, kS⟩
            have kS' := kS
            obtain ⟨k0, k1, ⟨q0, hq0⟩, m0, kb⟩ := kS'
            obtain ⟨e0, e1, f0, f1⟩ := hq0.facts
            refine hK.out _ _ kS (fun hHeld => ?_)
            clear hK K
            refine readyOne (i := 11) (by kernel_rfl) rfl (fun K hK => ?_)
            go_simp
            refine hK.out _ _ ?_ (fun hHeld => ?_)
            · exact ⟨(World.cell?_setCell_far _ _ _ _ (by first | (simp; done) | (simp; omega))).trans ((World.cell?_setCell_far _ _ _ _ (by first | (simp; done) | (simp; omega))).trans k0), (World.cell?_setCell_far _ _ _ _ (by first | (simp; done) | (simp; omega))).trans ((World.cell?_setCell_far _ _ _ _ (by first | (simp; done) | (simp; omega))).trans k1), ⟨u2, hq0.set u2.1 u2.2⟩, (m0.other _ 0 _ (by omega)).other _ 1 _ (by omega), (kb.setCell (p := ⟨B, 0, none⟩) (by first | (simp; done) | (simp; omega)) _).setCell (p := ⟨B, 1, none⟩) (by first | (simp; done) | (simp; omega)) _⟩
            clear hK K
            refine wpAnyH_done (by kernel_rfl) ?_ _
            obtain ⟨_, _, _, hz3, hb3⟩ := hHeld
            go_wp2
            go_roundw
            case rel => exact ⟨k + 1, by go_num, by omega, HN.out, hz3, by rw [HS2.out]; exact hq0.set u2.1 u2.2, hb3⟩
            case measure => simp [intOf]; omega
          · go_simp
            refine (keepSU (fun w' : World => w'.cell? ⟨b, off + k * 3 + 1, none⟩ = some (.int .i64 c.1) ∧ w'.cell? ⟨b, off + k * 3 + 1 + 1, none⟩ = some (.int .i64 c.2) ∧ (∃ q : Ga.E, EBox w' (B) q) ∧ EBox w' (w.heap.size) (0, 0) ∧ Below w.heap.size w w') hkp.out (by assumption) (hwk.out _ hHeld.2.2.2.2) (by assumption)).mono ?_
            rintro e w4 ⟨rfl, kS, hu4⟩
            obtain ⟨d0, d1, _, _⟩ := hu4.facts
            refine hK.out _ _ kS (fun hHeld => ?_)
            clear hK K
            refine readyTwo (i := 0) (j := 9) (by kernel_rfl) rfl rfl (fun K hK => ?_) (fun K hK => ?_)
            · go_simp
              refine hK.out _ _ ?_ (fun hHeld => ?_)
              · assumption
              clear hK K
              refine readyOne (i := 9) (by kernel_rfl) rfl (fun K hK => ?_)
              go_simp
              refine (keepSU (fun w' : World => w'.cell? ⟨b, off + k * 3 + 1, none⟩ = some (.int .i64 c.1) ∧ w'.cell? ⟨b, off + k * 3 + 1 + 1, none⟩ = some (.int .i64 c.2) ∧ (∃ q : Ga.E, EBox w' (B) q) ∧ EBox w' (w.heap.size) (0, 0) ∧ Below w.heap.size w w') hkp.out (by assumption) (pmul_eq H1.out _) (by assumption)).mono ?_
              rintro e w4 ⟨rfl, kS, hu4⟩
              obtain ⟨d0, d1, _, _⟩ := hu4.facts
              refine hK.out _ _ kS (fun hHeld => ?_)
              clear hK K
              refine readyOne (i := 10) (by kernel_rfl) rfl (fun K hK => ?_)
              go_simp
              refine (keepS (fun w' : World => w'.cell? ⟨b, off + k * 3 + 1, none⟩ = some (.int .i64 c.1) ∧ w'.cell? ⟨b, off + k * 3 + 1 + 1, none⟩ = some (.int .i64 c.2) ∧ (∃ q : Ga.E, EBox w' (B) q) ∧ EBox w' (w.heap.size) (0, 0) ∧ Below w.heap.size w w') hkp.out (padd_eq H2.out _) (by assumption)).mono ?_
              rintro e w5 ⟨rfl, kS⟩
              have kS' := kS
              obtain ⟨k0, k1, ⟨q0, hq0⟩, m0, kb⟩ := kS'
              obtain ⟨e0, e1, f0, f1⟩ := hq0.facts
              refine hK.out _ _ kS (fun hHeld => ?_)
              clear hK K
              refine readyOne (i := 11) (by kernel_rfl) rfl (fun K hK => ?_)
              go_simp
              refine hK.out _ _ ?_ (fun hHeld => ?_)
              · exact ⟨(World.cell?_setCell_far _ _ _ _ (by first | (simp; done) | (simp; omega))).trans ((World.cell?_setCell_far _ _ _ _ (by first | (simp; done) | (simp; omega))).trans k0), (World.cell?_setCell_far _ _ _ _ (by first | (simp; done) | (simp; omega))).trans ((World.cell?_setCell_far _ _ _ _ (by first | (simp; done) | (simp; omega))).trans k1), ⟨u2, hq0.set u2.1 u2.2⟩, (m0.other _ 0 _ (by omega)).other _ 1 _ (by omega), (kb.setCell (p := ⟨B, 0, none⟩) (by first | (simp; done) | (simp; omega)) _).setCell (p := ⟨B, 1, none⟩) (by first | (simp; done) | (simp; omega)) _⟩
              clear hK K
              refine wpAnyH_done (by kernel_rfl) ?_ _
              obtain ⟨_, _, _, hz3, hb3⟩ := hHeld
              go_wp2
              go_roundw
              case rel => exact ⟨k + 1, by go_num, by omega, HN.out, hz3, by rw [HS2.out]; exact hq0.set u2.1 u2.2, hb3⟩
              case measure => simp [intOf]; omega
            · go_simp
              refine (keepSU (fun w' : World => w'.cell? ⟨b, off + k * 3 + 1, none⟩ = some (.int .i64 c.1) ∧ w'.cell? ⟨b, off + k * 3 + 1 + 1, none⟩ = some (.int .i64 c.2) ∧ (∃ q : Ga.E, EBox w' (B) q) ∧ EBox w' (w.heap.size) (0, 0) ∧ Below w.heap.size w w') hkp.out (by assumption) (pmul_eq H1.out _) (by assumption)).mono ?_
              rintro e w4 ⟨rfl, kS, hu4⟩
              obtain ⟨d0, d1, _, _⟩ := hu4.facts
              refine hK.out _ _ kS (fun hHeld => ?_)
              clear hK K
              refine readyOne (i := 0) (by kernel_rfl) rfl (fun K hK => ?_)
              go_simp
              refine hK.out _ _ ?_ (fun hHeld => ?_)
              · assumption
              clear hK K
              refine readyOne (i := 10) (by kernel_rfl) rfl (fun K hK => ?_)
              go_simp
              refine (keepS (fun w' : World => w'.cell? ⟨b, off + k * 3 + 1, none⟩ = some (.int .i64 c.1) ∧ w'.cell? ⟨b, off + k * 3 + 1 + 1, none⟩ = some (.int .i64 c.2) ∧ (∃ q : Ga.E, EBox w' (B) q) ∧ EBox w' (w.heap.size) (0, 0) ∧ Below w.heap.size w w') hkp.out (padd_eq H2.out _) (by assumption)).mono ?_
              rintro e w5 ⟨rfl, kS⟩
              have kS' := kS
              obtain ⟨k0, k1, ⟨q0, hq0⟩, m0, kb⟩ := kS'
              obtain ⟨e0, e1, f0, f1⟩ := hq0.facts
              refine hK.out _ _ kS (fun hHeld => ?_)
              clear hK K
              refine readyOne (i := 11) (by kernel_rfl) rfl (fun K hK => ?_)
              go_simp
              refine hK.out _ _ ?_ (fun hHeld => ?_)
              · exact ⟨(World.cell?_setCell_far _ _ _ _ (by first | (simp; done) | (simp; omega))).trans ((World.cell?_setCell_far _ _ _ _ (by first | (simp; done) | (simp; omega))).trans k0), (World.cell?_setCell_far _ _ _ _ (by first | (simp; done) | (simp; omega))).trans ((World.cell?_setCell_far _ _ _ _ (by first | (simp; done) | (simp; omega))).trans k1), ⟨u2, hq0.set u2.1 u2.2⟩, (m0.other _ 0 _ (by omega)).other _ 1 _ (by omega), (kb.setCell (p := ⟨B, 0, none⟩) (by first | (simp; done) | (simp; omega)) _).setCell (p := ⟨B, 1, none⟩) (by first | (simp; done) | (simp; omega)) _⟩
              clear hK K
              refine wpAnyH_done (by kernel_rfl) ?_ _
              obtain ⟨_, _, _, hz3, hb3⟩ := hHeld
              go_wp2
              go_roundw
              case rel => exact ⟨k + 1, by go_num, by omega, HN.out, hz3, by rw [HS2.out]; exact hq0.set u2.1 u2.2, hb3⟩
              case measure => simp [intOf]; omega
      · obtain rfl : k = l.length := by omega
        have hr := hgood.out (by have := HALL.out; rwa [List.take_length] at this)
        obtain ⟨s, hse⟩ : ∃ s, Sr.sumE l l.length = s := ⟨_, rfl⟩
        rw [hse] at hr hs
        subst hr
        clear hgood hbad hse
        obtain ⟨d0, d1, _, _⟩ := hs.facts
        obtain ⟨z0, z1, f0, f1⟩ := hz.facts
        go_wp2
        refine bodyPost_ret (v := .tuple #[elv s, .int .i64 0]) ?_ rfl ⟨rfl, ?_⟩
        · obtain ⟨d0, d1, _, _⟩ := (hz.set s.1 s.2).facts
          simp [results, Try.f16, go_sem, d0, d1]
        · exact (hb.setCell (p := ⟨w.heap.size, 0, none⟩) (by simp) _).setCell (p := ⟨w.heap.size, 1, none⟩) (by simp) _
end Go.Proofs.Ytngmkokmomficaa
