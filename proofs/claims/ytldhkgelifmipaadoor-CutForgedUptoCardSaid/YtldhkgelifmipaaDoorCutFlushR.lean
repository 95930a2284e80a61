/- The document's Flush; both where nothing waits. (Written by gen-cutflush.py.) -/
import Derived.Test.YtldhkgelifmipaaDoorCutFlush
namespace Go.Proofs.YtldhkgelifmipaaDoor
open Go.RowKit

set_option maxHeartbeats 8000000 in
set_option maxRecDepth 100000 in
theorem rcflush (c : Ct.Blk) (u : Value) (w : World) (hu : TxAt w u c.2.2) (hf : CutFit c) (h63 : c.1 ≤ 9223372036854775807) (h0 : c.2.2 ≠ []) :
    Calls Tryd.prog 14 #[blkV c u] w fun e w' => ∃ g uc, e = .returned (.tuple #[.agg #[iv (Ct.nxt c.1), tx (Ct.dig c), .slice none 0 0], .slice (some ⟨g, 0, none⟩) 1 1]) ∧ KBox w' g 25 (iv c.1) (tx c.2.1) uc ∧ TxAt w' uc c.2.2 ∧ uc = u ∧ Below w.heap.size w w' := by
  obtain ⟨n, p, ls⟩ := c
  have hfit := Lib.hid hf
  simp only at hu h63 h0
  obtain ⟨d, hd⟩ : ∃ d, Ct.dig (n, p, ls) = d := ⟨_, rfl⟩
  have hl0 : ((ls.length : Int) == 0) = false := by
    rw [beq_eq_false_iff_ne]
    intro e
    exact h0 (List.length_eq_zero_iff.1 (by omega))
  have hln : ls.length ≤ 1073741824 := hf.2.1
  obtain ⟨C, hC⟩ : ∃ C, w.heap.size = C := ⟨_, rfl⟩
  obtain ⟨R, hR⟩ : ∃ R, C + 1 = R := ⟨_, rfl⟩
  obtain ⟨au, cu, rfl⟩ := hu.len
  obtain ⟨w0, hw0⟩ : ∃ w0, (w.alloc (.cells #[iv n, tx p, .slice au ls.length cu] 24)).alloc (.cells #[.int .i64 0, .string ⟨#[]⟩, .slice none 0 0] 24) = w0 := ⟨_, rfl⟩
  have g0 : Below w.heap.size w w0 := by rw [← hw0]; exact ((Below.refl _ _).alloc (Nat.le_refl _) _).alloc (by simp) _
  have kc : KBox w0 C 24 (.int .i64 n) (tx p) (.slice au ls.length cu) := by
    rw [← hw0, ← hC]
    exact (KBox.new w 24 (.int .i64 n) (tx p) (.slice au ls.length cu)).alloc _
  have kr : KBox w0 R 24 (.int .i64 0) (.string ⟨#[]⟩) (.slice none 0 0) := by
    have h := KBox.new (w.alloc (.cells #[iv n, tx p, .slice au ls.length cu] 24)) 24 (.int .i64 0) (.string ⟨#[]⟩) (.slice none 0 0)
    have e : (w.alloc (.cells #[iv n, tx p, .slice au ls.length cu] 24)).heap.size = R := by simp; omega
    rw [e, hw0] at h
    exact h
  have hsz : w0.heap.size = R + 1 := by rw [← hw0, ← hR, ← hC]; simp
  have HSZ := Lib.hid (show w0.drew.heap.size = R + 1 ∧ w0.heap.size = R + 1 ∧ w0.drew.heap.size = w0.heap.size from ⟨hsz, hsz, rfl⟩)
  clear hsz
  have HU := Lib.hid (hu.below g0)
  have mkS4 : ∀ w' {z0 z1 z2 : Value} {g : Nat} {uc : Value}, FSt false w w' C g R n p (.slice au ls.length cu) uc ls z0 z1 z2 → (fun w' : World => w'.cell? ⟨C, 0, none⟩ = some (.int .i64 n) ∧ w'.cell? ⟨g, 0, none⟩ = some (.int .i64 n) ∧ w'.cell? ⟨g, 1, none⟩ = some (tx p) ∧ w'.cell? ⟨g, 2, none⟩ = some uc ∧ ∃ z0 z1 z2, FSt false w w' C g R n p (.slice au ls.length cu) uc ls z0 z1 z2) w' := fun w' _ _ _ g uc h => ⟨h.kc.cells.1, h.kg.cells.1, h.kg.cells.2.1, h.kg.cells.2.2, _, _, _, h⟩
  obtain ⟨c0, c1, c2⟩ := kc.cells
  have HUB := Lib.hid (show ∀ k, Value.ownBlock (.slice au ls.length cu) = some k → k < C from fun k hk => by
    rcases hu with ⟨_, _, _, rfl⟩ | ⟨b, off, cap, e, hc⟩
    · exact absurd rfl h0
    · have e2 : b = k := by rw [e] at hk; exact Option.some.inj hk
      have h1 : 0 < ls.length := by
        rcases Nat.eq_zero_or_pos ls.length with h | h
        · exact absurd (List.length_eq_zero_iff.1 h) h0
        · exact h
      have := World.block_lt_of_cell? w _ (hc 0 h1)
      simp only at this
      omega)
  clear hu hf h0
  obtain ⟨wP, hwP⟩ : ∃ x, World.alloc w0 (.cells #[.int .i64 0, .string ⟨#[]⟩, .slice none 0 0] 25) = x := ⟨_, rfl⟩
  obtain ⟨g, hg⟩ : ∃ x, (World.heap w0).size = x := ⟨_, rfl⟩
  have hP : Below (World.heap w0).size w0 wP := by rw [← hwP]; exact (Below.refl _ _).alloc (Nat.le_refl _) _
  have kP : KBox wP g 25 (.int .i64 0) (.string ⟨#[]⟩) (.slice none 0 0) := by rw [← hwP, ← hg]; exact KBox.new _ _ _ _ _
  obtain ⟨p0, p1, p2⟩ := kP.cells
  obtain ⟨f0, f1, f2⟩ := kP.free
  obtain ⟨w3, hw3⟩ : ∃ x, World.setCell (World.setCell (World.setCell wP ⟨g, 0, none⟩ (.int .i64 n)) ⟨g, 1, none⟩ (tx p)) ⟨g, 2, none⟩ (.slice au ls.length cu) = x := ⟨_, rfl⟩
  go_enter Tryd.func14, Tryd.ntmps14
  go_upto_region 4 with fail
  have hgR : g ≠ R := by rw [← hg]; have := HSZ.out; omega
  have h03 : Below w0.heap.size w0 w3 := by rw [← hw3]; exact below_set3 hP (by omega) _ _ _
  have kc3 := kc.kept h03
  have kr3 := kr.kept h03
  have kg3 : KBox w3 g 25 (.int .i64 n) (tx p) (.slice au ls.length cu) := by rw [← hw3]; exact kP.set _ _ _
  have t3 : TxAt w3 (.slice au ls.length cu) ls := HU.out.below h03
  have hucR : ∀ k, Value.ownBlock (.slice au ls.length cu) = some k → k ≠ R := fun k hk => by have := HUB.out k hk; omega
  have h3 : FSt false w w3 C g R n p (.slice au ls.length cu) (.slice au ls.length cu) ls (.int .i64 0) (.string ⟨#[]⟩) (.slice none 0 0) := ⟨kc3, kg3, kr3, t3, g0.trans (h03.mono g0.size), fun _ _ h => (Bool.false_ne_true h).elim, by omega, by omega, by omega, hgR, hucR⟩
  clear h03 kc3 kr3 kg3 t3 hucR kP
  refine wp_region_held_drew (S := (fun w' : World => w'.cell? ⟨C, 0, none⟩ = some (.int .i64 n) ∧ w'.cell? ⟨g, 0, none⟩ = some (.int .i64 n) ∧ w'.cell? ⟨g, 1, none⟩ = some (tx p) ∧ w'.cell? ⟨g, 2, none⟩ = some (.slice au ls.length cu) ∧ ∃ z0 z1 z2, FSt false w w' C g R n p (.slice au ls.length cu) (.slice au ls.length cu) ls z0 z1 z2)) (by kernel_rfl) ?_ (fun hHeld => ?_)
  · exact mkS4 _ (h3.keep ((Below.refl _ _).drew))
  refine takeW (i := 0) (v := ?_) rfl (by kernel_rfl) (by kernel_rfl) (by kernel_rfl) (fun _ _ _ h => h) (by rfl) ?_ (by assumption) ?_
  rotate_left
  focus (intro w hSw; (try dsimp only at hSw); go_simp; try (with_reducible rfl))
  simp only [Act.put, List.setIfInBounds_toArray, List.set_cons_zero, List.set_cons_succ]
  refine takeW (i := 1) (v := ?_) rfl (by kernel_rfl) (by kernel_rfl) (by kernel_rfl) (fun _ _ _ h => h) (by rfl) ?_ (by assumption) ?_
  rotate_left
  focus (intro w hSw; (try dsimp only at hSw); go_simp; try (with_reducible rfl))
  simp only [Act.put, List.setIfInBounds_toArray, List.set_cons_zero, List.set_cons_succ]
  refine takeW (i := 2) (v := ?_) rfl (by kernel_rfl) (by kernel_rfl) (by kernel_rfl) (fun _ _ _ h => h) (by rfl) ?_ (by assumption) ?_
  rotate_left
  focus (intro w hSw; (try dsimp only at hSw); go_simp; try (with_reducible rfl))
  simp only [Act.put, List.setIfInBounds_toArray, List.set_cons_zero, List.set_cons_succ]
  refine takeW (i := 3) (v := ?_) rfl (by kernel_rfl) (by kernel_rfl) (by kernel_rfl) (fun _ _ _ h => h) (by rfl) ?_ (by assumption) ?_
  rotate_left
  focus (intro w hSw; (try dsimp only at hSw); go_simp; try (with_reducible rfl))
  simp only [Act.put, List.setIfInBounds_toArray, List.set_cons_zero, List.set_cons_succ]
  refine takeW (i := 6) (v := ?_) rfl (by kernel_rfl) (by kernel_rfl) (by kernel_rfl) (fun _ _ _ h => h) (by rfl) ?_ (by assumption) ?_
  rotate_left
  focus (intro w hSw; (try dsimp only at hSw); go_simp; try (with_reducible rfl))
  simp only [Act.put, List.setIfInBounds_toArray, List.set_cons_zero, List.set_cons_succ]
  refine readyTwo (i := 4) (j := 7) (by kernel_rfl) rfl rfl (fun K hK => ?_) (fun K hK => ?_)
  · go_simp
    obtain ⟨z0, z1, z2, hf0⟩ := (show (fun w' : World => w'.cell? ⟨C, 0, none⟩ = some (.int .i64 n) ∧ w'.cell? ⟨g, 0, none⟩ = some (.int .i64 n) ∧ w'.cell? ⟨g, 1, none⟩ = some (tx p) ∧ w'.cell? ⟨g, 2, none⟩ = some (.slice au ls.length cu) ∧ ∃ z0 z1 z2, FSt false w w' C g R n p (.slice au ls.length cu) (.slice au ls.length cu) ls z0 z1 z2) _ by assumption).2.2.2.2
    refine (rcdig (n, p, ls) (.slice au ls.length cu) _ hf0.kt hfit.out h63).mono ?_
    rintro e w9 ⟨rfl, h9⟩
    have hf9 := hf0.keep h9
    have kS : (fun w' : World => w'.cell? ⟨C, 0, none⟩ = some (.int .i64 n) ∧ w'.cell? ⟨g, 0, none⟩ = some (.int .i64 n) ∧ w'.cell? ⟨g, 1, none⟩ = some (tx p) ∧ w'.cell? ⟨g, 2, none⟩ = some (.slice au ls.length cu) ∧ ∃ z0 z1 z2, FSt false w w' C g R n p (.slice au ls.length cu) (.slice au ls.length cu) ls z0 z1 z2) w9 := mkS4 _ hf9
    go_wp2_with fail
    refine hK.out _ _ kS (fun hHeld => ?_)
    clear hK K
    refine takeW (i := 5) (v := ?_) rfl (by kernel_rfl) (by kernel_rfl) (by kernel_rfl) (fun _ _ _ h => h) (by rfl) ?_ (by assumption) ?_
    rotate_left
    focus (intro w hSw; (try dsimp only at hSw); go_simp; try (with_reducible rfl))
    simp only [Act.put, List.setIfInBounds_toArray, List.set_cons_zero, List.set_cons_succ]
    refine readyTwo (i := 7) (j := 8) (by kernel_rfl) rfl rfl (fun K hK => ?_) (fun K hK => ?_)
    · obtain ⟨wA, hwA⟩ : ∃ x, World.alloc w9 (.cells #[.int .i64 n, tx p, (.slice au ls.length cu)] 25) = x := ⟨_, rfl⟩
      obtain ⟨G, hG⟩ : ∃ x, (World.heap w9).size = x := ⟨_, rfl⟩
      have hA : Below (World.heap w9).size w9 wA := by rw [← hwA]; exact (Below.refl _ _).alloc (Nat.le_refl _) _
      have k5 : KBox wA G 25 (.int .i64 n) (tx p) (.slice au ls.length cu) := by rw [← hwA, ← hG]; exact KBox.new _ _ _ _ _
      have hRG : R < G := by rw [← hG]; exact hf9.kr.lt
      have hfA := hf9.keep hA
      go_simp
      refine hK.out _ _ ?_ (fun hHeld => ?_)
      · exact mkS4 _ hfA
      clear hK K
      refine readyOne (i := 8) (by kernel_rfl) rfl (fun K hK => ?_)
      obtain ⟨wB, hwB⟩ : ∃ x, World.setCell (World.setCell (World.setCell wA ⟨R, 0, none⟩ (.int .i64 (IntKind.i64.wrap (n + 1)))) ⟨R, 1, none⟩ (tx d)) ⟨R, 2, none⟩ (.slice none 0 0) = x := ⟨_, rfl⟩
      have hfB := hfA.put (.int .i64 (IntKind.i64.wrap (n + 1))) (tx d) (.slice none 0 0)
      obtain ⟨q0, q1, q2⟩ := hfA.kr.cells
      obtain ⟨y0, y1, y2⟩ := hfA.kr.free
      rw [hwB] at hfB
      have k5' := ((k5.other (Nat.ne_of_gt hRG) 0 (.int .i64 (IntKind.i64.wrap (n + 1)))).other (Nat.ne_of_gt hRG) 1 (tx d)).other (Nat.ne_of_gt hRG) 2 (.slice none 0 0)
      rw [hwB] at k5'
      go_simp
      refine hK.out _ _ ?_ (fun hHeld => ?_)
      · exact mkS4 _ hfB
      clear hK K
      have HK5 := k5'
      have HFB := hfB
      obtain ⟨q0, q1, q2⟩ := hfB.kr.cells
      refine takeW (i := 9) (v := ?_) rfl (by kernel_rfl) (by kernel_rfl) (by kernel_rfl) (fun _ _ _ h => h) (by rfl) ?_ (by assumption) ?_
      rotate_left
      focus (intro w hSw; (try dsimp only at hSw); go_simp; try (with_reducible rfl))
      simp only [Act.put, List.setIfInBounds_toArray, List.set_cons_zero, List.set_cons_succ]
      refine wpAnyH_done (by kernel_rfl) ?_ _
      go_wp2
      refine bodyPost_ret (v := .tuple #[.agg #[.int .i64 (IntKind.i64.wrap (n + 1)), tx d, .slice none 0 0], .slice (some ⟨G, 0, none⟩) 1 1]) (by simp [results, Tryd.results14, go_sem, q0, q1, q2]) rfl ?_
      exact ⟨G, (.slice au ls.length cu), by rw [hd]; rfl, HK5, HFB.kt, rfl, HFB.kb⟩
    · obtain ⟨wB, hwB⟩ : ∃ x, World.setCell (World.setCell (World.setCell w9 ⟨R, 0, none⟩ (.int .i64 (IntKind.i64.wrap (n + 1)))) ⟨R, 1, none⟩ (tx d)) ⟨R, 2, none⟩ (.slice none 0 0) = x := ⟨_, rfl⟩
      have hfB := hf9.put (.int .i64 (IntKind.i64.wrap (n + 1))) (tx d) (.slice none 0 0)
      obtain ⟨q0, q1, q2⟩ := hf9.kr.cells
      obtain ⟨y0, y1, y2⟩ := hf9.kr.free
      rw [hwB] at hfB
      go_simp
      refine hK.out _ _ ?_ (fun hHeld => ?_)
      · exact mkS4 _ hfB
      clear hK K
      refine readyOne (i := 7) (by kernel_rfl) rfl (fun K hK => ?_)
      obtain ⟨wA, hwA⟩ : ∃ x, World.alloc wB (.cells #[.int .i64 n, tx p, (.slice au ls.length cu)] 25) = x := ⟨_, rfl⟩
      obtain ⟨G, hG⟩ : ∃ x, (World.heap wB).size = x := ⟨_, rfl⟩
      have hA : Below (World.heap wB).size wB wA := by rw [← hwA]; exact (Below.refl _ _).alloc (Nat.le_refl _) _
      have k5 : KBox wA G 25 (.int .i64 n) (tx p) (.slice au ls.length cu) := by rw [← hwA, ← hG]; exact KBox.new _ _ _ _ _
      have hRG : R < G := by rw [← hG]; exact hfB.kr.lt
      have hfA := hfB.keep hA
      go_simp
      refine hK.out _ _ ?_ (fun hHeld => ?_)
      · exact mkS4 _ hfA
      clear hK K
      have HK5 := k5
      have HFB := hfA
      obtain ⟨q0, q1, q2⟩ := hfA.kr.cells
      refine takeW (i := 9) (v := ?_) rfl (by kernel_rfl) (by kernel_rfl) (by kernel_rfl) (fun _ _ _ h => h) (by rfl) ?_ (by assumption) ?_
      rotate_left
      focus (intro w hSw; (try dsimp only at hSw); go_simp; try (with_reducible rfl))
      simp only [Act.put, List.setIfInBounds_toArray, List.set_cons_zero, List.set_cons_succ]
      refine wpAnyH_done (by kernel_rfl) ?_ _
      go_wp2
      refine bodyPost_ret (v := .tuple #[.agg #[.int .i64 (IntKind.i64.wrap (n + 1)), tx d, .slice none 0 0], .slice (some ⟨G, 0, none⟩) 1 1]) (by simp [results, Tryd.results14, go_sem, q0, q1, q2]) rfl ?_
      exact ⟨G, (.slice au ls.length cu), by rw [hd]; rfl, HK5, HFB.kt, rfl, HFB.kb⟩
  · obtain ⟨z0', z1', z2', hfD⟩ := (show (fun w' : World => w'.cell? ⟨C, 0, none⟩ = some (.int .i64 n) ∧ w'.cell? ⟨g, 0, none⟩ = some (.int .i64 n) ∧ w'.cell? ⟨g, 1, none⟩ = some (tx p) ∧ w'.cell? ⟨g, 2, none⟩ = some (.slice au ls.length cu) ∧ ∃ z0 z1 z2, FSt false w w' C g R n p (.slice au ls.length cu) (.slice au ls.length cu) ls z0 z1 z2) _ by assumption).2.2.2.2
    obtain ⟨wA, hwA⟩ : ∃ x, World.alloc (World.drew w3) (.cells #[.int .i64 n, tx p, (.slice au ls.length cu)] 25) = x := ⟨_, rfl⟩
    obtain ⟨G, hG⟩ : ∃ x, (World.heap (World.drew w3)).size = x := ⟨_, rfl⟩
    have hA : Below (World.heap (World.drew w3)).size (World.drew w3) wA := by rw [← hwA]; exact (Below.refl _ _).alloc (Nat.le_refl _) _
    have k5 : KBox wA G 25 (.int .i64 n) (tx p) (.slice au ls.length cu) := by rw [← hwA, ← hG]; exact KBox.new _ _ _ _ _
    have hRG : R < G := by rw [← hG]; exact hfD.kr.lt
    have hfA := hfD.keep hA
    go_simp
    refine hK.out _ _ ?_ (fun hHeld => ?_)
    · exact mkS4 _ hfA
    clear hK K
    refine readyOne (i := 4) (by kernel_rfl) rfl (fun K hK => ?_)
    go_simp
    obtain ⟨z0, z1, z2, hf0⟩ := (show (fun w' : World => w'.cell? ⟨C, 0, none⟩ = some (.int .i64 n) ∧ w'.cell? ⟨g, 0, none⟩ = some (.int .i64 n) ∧ w'.cell? ⟨g, 1, none⟩ = some (tx p) ∧ w'.cell? ⟨g, 2, none⟩ = some (.slice au ls.length cu) ∧ ∃ z0 z1 z2, FSt false w w' C g R n p (.slice au ls.length cu) (.slice au ls.length cu) ls z0 z1 z2) _ by assumption).2.2.2.2
    refine (rcdig (n, p, ls) (.slice au ls.length cu) _ hf0.kt hfit.out h63).mono ?_
    rintro e w9 ⟨rfl, h9⟩
    have hf9 := hf0.keep h9
    have kS : (fun w' : World => w'.cell? ⟨C, 0, none⟩ = some (.int .i64 n) ∧ w'.cell? ⟨g, 0, none⟩ = some (.int .i64 n) ∧ w'.cell? ⟨g, 1, none⟩ = some (tx p) ∧ w'.cell? ⟨g, 2, none⟩ = some (.slice au ls.length cu) ∧ ∃ z0 z1 z2, FSt false w w' C g R n p (.slice au ls.length cu) (.slice au ls.length cu) ls z0 z1 z2) w9 := mkS4 _ hf9
    go_wp2_with fail
    refine hK.out _ _ kS (fun hHeld => ?_)
    clear hK K
    have k5'' := k5.kept h9
    refine takeW (i := 5) (v := ?_) rfl (by kernel_rfl) (by kernel_rfl) (by kernel_rfl) (fun _ _ _ h => h) (by rfl) ?_ (by assumption) ?_
    rotate_left
    focus (intro w hSw; (try dsimp only at hSw); go_simp; try (with_reducible rfl))
    simp only [Act.put, List.setIfInBounds_toArray, List.set_cons_zero, List.set_cons_succ]
    refine readyOne (i := 8) (by kernel_rfl) rfl (fun K hK => ?_)
    obtain ⟨wB, hwB⟩ : ∃ x, World.setCell (World.setCell (World.setCell w9 ⟨R, 0, none⟩ (.int .i64 (IntKind.i64.wrap (n + 1)))) ⟨R, 1, none⟩ (tx d)) ⟨R, 2, none⟩ (.slice none 0 0) = x := ⟨_, rfl⟩
    have hfB := hf9.put (.int .i64 (IntKind.i64.wrap (n + 1))) (tx d) (.slice none 0 0)
    obtain ⟨q0, q1, q2⟩ := hf9.kr.cells
    obtain ⟨y0, y1, y2⟩ := hf9.kr.free
    rw [hwB] at hfB
    have k5' := ((k5''.other (Nat.ne_of_gt hRG) 0 (.int .i64 (IntKind.i64.wrap (n + 1)))).other (Nat.ne_of_gt hRG) 1 (tx d)).other (Nat.ne_of_gt hRG) 2 (.slice none 0 0)
    rw [hwB] at k5'
    go_simp
    refine hK.out _ _ ?_ (fun hHeld => ?_)
    · exact mkS4 _ hfB
    clear hK K
    have HK5 := k5'
    have HFB := hfB
    obtain ⟨q0, q1, q2⟩ := hfB.kr.cells
    refine takeW (i := 9) (v := ?_) rfl (by kernel_rfl) (by kernel_rfl) (by kernel_rfl) (fun _ _ _ h => h) (by rfl) ?_ (by assumption) ?_
    rotate_left
    focus (intro w hSw; (try dsimp only at hSw); go_simp; try (with_reducible rfl))
    simp only [Act.put, List.setIfInBounds_toArray, List.set_cons_zero, List.set_cons_succ]
    refine wpAnyH_done (by kernel_rfl) ?_ _
    go_wp2
    refine bodyPost_ret (v := .tuple #[.agg #[.int .i64 (IntKind.i64.wrap (n + 1)), tx d, .slice none 0 0], .slice (some ⟨G, 0, none⟩) 1 1]) (by simp [results, Tryd.results14, go_sem, q0, q1, q2]) rfl ?_
    exact ⟨G, (.slice au ls.length cu), by rw [hd]; rfl, HK5, HFB.kt, rfl, HFB.kb⟩

set_option maxHeartbeats 1000000 in
theorem pcflush_nil (n : Int) (p : List UInt8) (a : Option Addr) (cap : Nat) (w : World) :
    Calls Tryd.prog 13 #[.agg #[iv n, tx p, .slice a 0 cap]] w fun e w' => e = .returned (.tuple #[.agg #[iv n, tx p, .slice none 0 0], .slice none 0 0]) ∧ Below w.heap.size w w' := by
  simp only [iv]
  go_enter Tryd.func13, Tryd.ntmps13
  go_wp2_with fail
  refine bodyPost_ret (v := .tuple #[.agg #[.int .i64 n, tx p, .slice none 0 0], .slice none 0 0]) (by simp [results, Tryd.results13, go_sem]) rfl ?_
  exact ⟨rfl, ((Below.refl _ _).alloc (Nat.le_refl _) _).alloc (by simp) _⟩

set_option maxHeartbeats 1000000 in
theorem rcflush_nil (n : Int) (p : List UInt8) (a : Option Addr) (cap : Nat) (w : World) :
    Calls Tryd.prog 14 #[.agg #[iv n, tx p, .slice a 0 cap]] w fun e w' => e = .returned (.tuple #[.agg #[iv n, tx p, .slice a 0 cap], .slice none 0 0]) ∧ Below w.heap.size w w' := by
  simp only [iv]
  go_enter Tryd.func14, Tryd.ntmps14
  go_wp2_with fail
  refine bodyPost_ret (v := .tuple #[.agg #[.int .i64 n, tx p, .slice a 0 cap], .slice none 0 0]) (by simp [results, Tryd.results14, go_sem]) rfl ?_
  exact ⟨rfl, ((Below.refl _ _).alloc (Nat.le_refl _) _).alloc (by simp) _⟩
end Go.Proofs.YtldhkgelifmipaaDoor
