/- Flush, in both packages. (Written by gen-cutflush.py.) -/
import Derived.Test.YtldhkgelifmipaaDoorCutBox
import Derived.Test.YtldhkgelifmipaaDoorCutDig
namespace Ct
def nxt (n : Int) : Int := Go.IntKind.i64.wrap (n + 1)
end Ct
namespace Go.Proofs.YtldhkgelifmipaaDoor
open Go.RowKit

theorem TxAt.set {w : World} {v : Value} {ls : List (List UInt8)} {B : Nat} (h : TxAt w v ls) (hne : ∀ k, v.ownBlock = some k → k ≠ B) (i : Nat) (x : Value) : TxAt (w.setCell ⟨B, i, none⟩ x) v ls := by
  rcases h with h | ⟨b, off, cap, rfl, hc⟩
  · exact .inl h
  · have hb := hne b rfl
    exact .inr ⟨b, off, cap, rfl, fun j hj => (World.cell?_of_block (w := w) (a := ⟨b, off + j, none⟩) (Below.heap_setCell w ⟨B, i, none⟩ x b hb)).trans (hc j hj)⟩
/-- What Flush holds while it makes its answer: the cutter (box C), the block (box g), the answer's cells (box R), the texts. -/
structure FSt (T : Bool) (w w' : World) (C g R : Nat) (n : Int) (p : List UInt8) (u uc : Value) (ls : List (List UInt8)) (z0 z1 z2 : Value) : Prop where
  kc : KBox w' C 24 (.int .i64 n) (tx p) u
  kg : KBox w' g 25 (.int .i64 n) (tx p) uc
  kr : KBox w' R 24 z0 z1 z2
  kt : TxAt w' uc ls
  kb : Below w.heap.size w w'
  ky : ∀ k, uc.ownBlock = some k → T = true → TyS w' k
  ki : w.heap.size ≤ C ∧ w.heap.size ≤ R ∧ C ≠ R ∧ g ≠ R ∧ ∀ k, uc.ownBlock = some k → k ≠ R
theorem FSt.keep {T : Bool} {w w' w'' : World} {C g R : Nat} {n : Int} {p : List UInt8} {u uc : Value} {ls : List (List UInt8)} {z0 z1 z2 : Value} (h : FSt T w w' C g R n p u uc ls z0 z1 z2) (hb : Below w'.heap.size w' w'') : FSt T w w'' C g R n p u uc ls z0 z1 z2 :=
  ⟨h.kc.kept hb, h.kg.kept hb, h.kr.kept hb, h.kt.below hb, grow_trans h.kb hb, fun k hk ht => by
    obtain ⟨cur, fz, hh⟩ := h.ky k hk ht
    exact ⟨cur, fz, by rw [hb.block k (Array.getElem?_eq_some_iff.1 hh).1]; exact hh⟩, h.ki⟩
theorem FSt.put {T : Bool} {w w' : World} {C g R : Nat} {n : Int} {p : List UInt8} {u uc : Value} {ls : List (List UInt8)} {z0 z1 z2 : Value} (h : FSt T w w' C g R n p u uc ls z0 z1 z2) (x y z : Value) :
    FSt T w (((w'.setCell ⟨R, 0, none⟩ x).setCell ⟨R, 1, none⟩ y).setCell ⟨R, 2, none⟩ z) C g R n p u uc ls x y z := by
  obtain ⟨i1, i2, i3, i4, i5⟩ := h.ki
  exact ⟨((h.kc.other i3 _ _).other i3 _ _).other i3 _ _, ((h.kg.other i4 _ _).other i4 _ _).other i4 _ _, h.kr.set x y z, ((h.kt.set i5 _ _).set i5 _ _).set i5 _ _, below_set3 h.kb i2 _ _ _, fun k hk ht => by
    obtain ⟨cur, fz, hh⟩ := h.ky k hk ht
    have hne := i5 k hk
    exact ⟨cur, fz, by rw [Below.heap_setCell _ ⟨R, 2, none⟩ _ _ hne, Below.heap_setCell _ ⟨R, 1, none⟩ _ _ hne, Below.heap_setCell _ ⟨R, 0, none⟩ _ _ hne]; exact hh⟩, h.ki⟩
theorem tys_own {w w' : World} {base n : Nat} {v : Value} {cs : List Value} (h : w.ownsRow base 9 1 v n cs) (hb : ∀ k, k < w.heap.size → w'.heap[k]? = w.heap[k]?) : ∀ k, v.ownBlock = some k → true = true → TyS w' k := by
  intro k hk _
  rcases h.2 with ⟨rfl, _⟩ | ⟨g, cap, cur, rfl, _, hg, _⟩
  · simp [Value.ownBlock] at hk
  · obtain rfl : g = k := Option.some.inj hk
    exact ⟨cur, _, by rw [hb g (Array.getElem?_eq_some_iff.1 hg).1]; exact hg⟩
theorem tys_own2 {w w' : World} {base n : Nat} {v : Value} {cs : List Value} (h : w.ownsRow base 9 1 v n cs) (hb : ∀ k, base ≤ k → w'.heap[k]? = w.heap[k]?) : ∀ k, v.ownBlock = some k → true = true → TyS w' k := by
  intro k hk _
  rcases h.2 with ⟨rfl, _⟩ | ⟨g, cap, cur, rfl, hbg, hg, _⟩
  · simp [Value.ownBlock] at hk
  · obtain rfl : g = k := Option.some.inj hk
    exact ⟨cur, _, by rw [hb g hbg]; exact hg⟩

set_option maxHeartbeats 8000000 in
set_option maxRecDepth 100000 in
theorem pcflush (c : Ct.Blk) (u : Value) (w : World) (hu : TxAt w u c.2.2) (hf : CutFit c) (h63 : c.1 ≤ 9223372036854775807) (h0 : c.2.2 ≠ []) (hw : GW w) :
    Calls Tryd.prog 13 #[blkV c u] w fun e w' => ∃ g uc, e = .returned (.tuple #[.agg #[iv (Ct.nxt c.1), tx (Ct.dig c), .slice none 0 0], .slice (some ⟨g, 0, none⟩) 1 1]) ∧ KBox w' g 25 (iv c.1) (tx c.2.1) uc ∧ TxAt w' uc c.2.2 ∧ (∀ k, uc.ownBlock = some k → TyS w' k) ∧ Below w.heap.size w w' := by
  obtain ⟨n, p, ls⟩ := c
  have hfit := Lib.hid hf
  simp only at hu h63 h0
  obtain ⟨d, hd⟩ : ∃ d, Ct.dig (n, p, ls) = d := ⟨_, rfl⟩
  have hl0 : ((ls.length : Int) == 0) = false := by
    rw [beq_eq_false_iff_ne]
    intro e
    exact h0 (List.length_eq_zero_iff.1 (by omega))
  have hln : ls.length ≤ 1073741824 := hf.2.1
  obtain ⟨C, hC⟩ : ∃ C, w.heap.size = C := ⟨_, rfl⟩
  obtain ⟨R, hR⟩ : ∃ R, C + 1 = R := ⟨_, rfl⟩
  obtain ⟨au, cu, rfl⟩ := hu.len
  obtain ⟨w0, hw0⟩ : ∃ w0, (w.alloc (.cells #[iv n, tx p, .slice au ls.length cu] 24)).alloc (.cells #[.int .i64 0, .string ⟨#[]⟩, .slice none 0 0] 24) = w0 := ⟨_, rfl⟩
  have g0 : Below w.heap.size w w0 := by rw [← hw0]; exact ((Below.refl _ _).alloc (Nat.le_refl _) _).alloc (by simp) _
  have kc : KBox w0 C 24 (.int .i64 n) (tx p) (.slice au ls.length cu) := by
    rw [← hw0, ← hC]
    exact (KBox.new w 24 (.int .i64 n) (tx p) (.slice au ls.length cu)).alloc _
  have kr : KBox w0 R 24 (.int .i64 0) (.string ⟨#[]⟩) (.slice none 0 0) := by
    have h := KBox.new (w.alloc (.cells #[iv n, tx p, .slice au ls.length cu] 24)) 24 (.int .i64 0) (.string ⟨#[]⟩) (.slice none 0 0)
    have e : (w.alloc (.cells #[iv n, tx p, .slice au ls.length cu] 24)).heap.size = R := by simp; omega
    rw [e, hw0] at h
    exact h
  have hsz : w0.heap.size = R + 1 := by rw [← hw0, ← hR, ← hC]; simp
  have HSZ := Lib.hid (show w0.drew.heap.size = R + 1 ∧ w0.heap.size = R + 1 ∧ w0.drew.heap.size = w0.heap.size from ⟨hsz, hsz, rfl⟩)
  clear hsz
  have HU := Lib.hid (hu.below g0)
  have mkS4 : ∀ w' {z0 z1 z2 : Value} {g : Nat} {uc : Value}, FSt true w w' C g R n p (.slice au ls.length cu) uc ls z0 z1 z2 → (fun w' : World => w'.cell? ⟨C, 0, none⟩ = some (.int .i64 n) ∧ w'.cell? ⟨g, 0, none⟩ = some (.int .i64 n) ∧ w'.cell? ⟨g, 1, none⟩ = some (tx p) ∧ w'.cell? ⟨g, 2, none⟩ = some uc ∧ ∃ z0 z1 z2, FSt true w w' C g R n p (.slice au ls.length cu) uc ls z0 z1 z2) w' := fun w' _ _ _ g uc h => ⟨h.kc.cells.1, h.kg.cells.1, h.kg.cells.2.1, h.kg.cells.2.2, _, _, _, h⟩
  obtain ⟨c0, c1, c2⟩ := kc.cells
  have HW := Lib.hid hw
  clear hu hw hf h0
  go_enter Tryd.func13, Tryd.ntmps13
  go_wp2_with fail
  refine wp_region_held_drew (S := (fun w' : World => w'.cell? ⟨C, 0, none⟩ = some (.int .i64 n) ∧ w'.cell? ⟨C, 1, none⟩ = some (tx p) ∧ w'.cell? ⟨C, 2, none⟩ = some (.slice au ls.length cu) ∧ KBox w' C 24 (.int .i64 n) (tx p) (.slice au ls.length cu) ∧ KBox w' R 24 (.int .i64 0) (.string ⟨#[]⟩) (.slice none 0 0) ∧ Below w0.heap.size w0 w')) (by kernel_rfl) ?_ (fun hHeld => ?_)
  · exact ⟨kc.cells.1, kc.cells.2.1, kc.cells.2.2, kc, kr, (Below.refl _ _).drew⟩
  refine takeW (i := 0) (v := ?_) rfl (by kernel_rfl) (by kernel_rfl) (by kernel_rfl) (fun _ _ _ h => h) (by rfl) ?_ (by assumption) ?_
  rotate_left
  focus (intro w hSw; (try dsimp only at hSw); go_simp; try (with_reducible rfl))
  simp only [Act.put, List.setIfInBounds_toArray, List.set_cons_zero, List.set_cons_succ]
  refine takeW (i := 1) (v := ?_) rfl (by kernel_rfl) (by kernel_rfl) (by kernel_rfl) (fun _ _ _ h => h) (by rfl) ?_ (by assumption) ?_
  rotate_left
  focus (intro w hSw; (try dsimp only at hSw); go_simp; try (with_reducible rfl))
  simp only [Act.put, List.setIfInBounds_toArray, List.set_cons_zero, List.set_cons_succ]
  refine takeW (i := 2) (v := ?_) rfl (by kernel_rfl) (by kernel_rfl) (by kernel_rfl) (fun _ _ _ h => h) (by rfl) ?_ (by assumption) ?_
  rotate_left
  focus (intro w hSw; (try dsimp only at hSw); go_simp; try (with_reducible rfl))
  simp only [Act.put, List.setIfInBounds_toArray, List.set_cons_zero, List.set_cons_succ]
  refine takeW (i := 3) (v := ?_) rfl (by kernel_rfl) (by kernel_rfl) (by kernel_rfl) (fun _ _ _ h => h) (by rfl) ?_ (by assumption) ?_
  rotate_left
  focus (intro w hSw; (try dsimp only at hSw); go_simp; try (with_reducible rfl))
  simp only [Act.put, List.setIfInBounds_toArray, List.set_cons_zero, List.set_cons_succ]
  refine takeW (i := 4) (v := ?_) rfl (by kernel_rfl) (by kernel_rfl) (by kernel_rfl) (fun _ _ _ h => h) (by rfl) ?_ (by assumption) ?_
  rotate_left
  focus (intro w hSw; (try dsimp only at hSw); go_simp; try (with_reducible rfl))
  simp only [Act.put, List.setIfInBounds_toArray, List.set_cons_zero, List.set_cons_succ]
  refine takeW (i := 5) (v := ?_) rfl (by kernel_rfl) (by kernel_rfl) (by kernel_rfl) (fun _ _ _ h => h) (by rfl) ?_ (by assumption) ?_
  rotate_left
  focus (intro w hSw; (try dsimp only at hSw); go_simp; try (with_reducible rfl))
  simp only [Act.put, List.setIfInBounds_toArray, List.set_cons_zero, List.set_cons_succ]
  refine readyTwo (i := 6) (j := 8) (by kernel_rfl) rfl rfl (fun K hK => ?_) (fun K hK => ?_)
  · go_simp
    obtain ⟨_, _, _, kc1, kr1, b1⟩ := (show (fun w' : World => w'.cell? ⟨C, 0, none⟩ = some (.int .i64 n) ∧ w'.cell? ⟨C, 1, none⟩ = some (tx p) ∧ w'.cell? ⟨C, 2, none⟩ = some (.slice au ls.length cu) ∧ KBox w' C 24 (.int .i64 n) (tx p) (.slice au ls.length cu) ∧ KBox w' R 24 (.int .i64 0) (.string ⟨#[]⟩) (.slice none 0 0) ∧ Below w0.heap.size w0 w') _ by assumption)
    refine (csclone _ ls _ (HU.out.below b1) (by omega)).mono ?_
    rintro e w9 ⟨uc, rfl, ho9, h9⟩
    obtain ⟨ua, ucc, rfl⟩ := (TxAt.own ho9).len
    have kS : (fun w' : World => w'.cell? ⟨C, 0, none⟩ = some (.int .i64 n) ∧ w'.cell? ⟨C, 1, none⟩ = some (tx p) ∧ w'.cell? ⟨C, 2, none⟩ = some (.slice au ls.length cu) ∧ KBox w' C 24 (.int .i64 n) (tx p) (.slice au ls.length cu) ∧ KBox w' R 24 (.int .i64 0) (.string ⟨#[]⟩) (.slice none 0 0) ∧ Below w0.heap.size w0 w') w9 := ⟨(kc1.kept h9).cells.1, (kc1.kept h9).cells.2.1, (kc1.kept h9).cells.2.2, (kc1.kept h9), (kr1.kept h9), (grow_trans b1 h9)⟩
    have b9 := grow_trans b1 h9
    have hs9 := h9.size
    go_wp2_with fail
    refine hK.out _ _ kS (fun hHeld => ?_)
    clear hK K
    refine takeW (i := 7) (v := ?_) rfl (by kernel_rfl) (by kernel_rfl) (by kernel_rfl) (fun _ _ _ h => h) (by rfl) ?_ (by assumption) ?_
    rotate_left
    focus (intro w hSw; (try dsimp only at hSw); go_simp; try (with_reducible rfl))
    simp only [Act.put, List.setIfInBounds_toArray, List.set_cons_zero, List.set_cons_succ]
    refine readyOne (i := 8) (by kernel_rfl) rfl (fun K hK => ?_)
    obtain ⟨wP, hwP⟩ : ∃ x, World.alloc w9 (.cells #[.int .i64 0, .string ⟨#[]⟩, .slice none 0 0] 25) = x := ⟨_, rfl⟩
    obtain ⟨g, hg⟩ : ∃ x, (World.heap w9).size = x := ⟨_, rfl⟩
    have hP : Below (World.heap w9).size w9 wP := by rw [← hwP]; exact (Below.refl _ _).alloc (Nat.le_refl _) _
    have kP : KBox wP g 25 (.int .i64 0) (.string ⟨#[]⟩) (.slice none 0 0) := by rw [← hwP, ← hg]; exact KBox.new _ _ _ _ _
    obtain ⟨p0, p1, p2⟩ := kP.cells
    obtain ⟨f0, f1, f2⟩ := kP.free
    go_simp
    refine hK.out _ _ ?_ (fun hHeld => ?_)
    · exact ⟨(kc1.kept h9 |>.kept hP).cells.1, (kc1.kept h9 |>.kept hP).cells.2.1, (kc1.kept h9 |>.kept hP).cells.2.2, (kc1.kept h9 |>.kept hP), (kr1.kept h9 |>.kept hP), (grow_trans b9 hP)⟩
    clear hK K
    refine readyOne (i := 9) (by kernel_rfl) rfl (fun K hK => ?_)
    obtain ⟨w3, hw3⟩ : ∃ x, World.setCell (World.setCell (World.setCell wP ⟨g, 0, none⟩ (.int .i64 n)) ⟨g, 1, none⟩ (tx p)) ⟨g, 2, none⟩ (.slice ua ls.length ucc) = x := ⟨_, rfl⟩
    have h93 : Below w9.heap.size w9 w3 := by rw [← hw3]; exact below_set3 hP (by omega) _ _ _
    have kc3 := (kc1.kept h9).kept h93
    have kr3 := (kr1.kept h9).kept h93
    have b3 := grow_trans b9 h93
    have kg3 : KBox w3 g 25 (.int .i64 n) (tx p) (.slice ua ls.length ucc) := by rw [← hw3]; exact kP.set _ _ _
    have t3 : TxAt w3 (.slice ua ls.length ucc) ls := (TxAt.own ho9).below h93
    have hgR : g ≠ R := by have := b9.size; have := HSZ.out; omega
    have ty3 : ∀ k, (Value.slice ua ls.length ucc).ownBlock = some k → true = true → TyS w3 k := tys_own ho9 (fun k hk => h93.block k hk)
    have hucR : ∀ k, (Value.slice ua ls.length ucc).ownBlock = some k → k ≠ R := fun k hk => by have := (ho9.lt k hk).1; have := HSZ.out; omega
    go_simp
    refine hK.out _ _ ?_ (fun hHeld => ?_)
    · exact ⟨kc3.cells.1, kc3.cells.2.1, kc3.cells.2.2, kc3, kr3, b3⟩
    clear hK K
    refine wpAnyH_done (by kernel_rfl) ?_ _
    have h3 : FSt true w w3 C g R n p (.slice au ls.length cu) (.slice ua ls.length ucc) ls (.int .i64 0) (.string ⟨#[]⟩) (.slice none 0 0) := ⟨kc3, kg3, kr3, t3, g0.trans (b3.mono g0.size), ty3, by have := HSZ.out; omega, by have := HSZ.out; omega, by omega, hgR, hucR⟩
    go_upto_region 4 with fail
    refine wp_region_held_drew (S := (fun w' : World => w'.cell? ⟨C, 0, none⟩ = some (.int .i64 n) ∧ w'.cell? ⟨g, 0, none⟩ = some (.int .i64 n) ∧ w'.cell? ⟨g, 1, none⟩ = some (tx p) ∧ w'.cell? ⟨g, 2, none⟩ = some (.slice ua ls.length ucc) ∧ ∃ z0 z1 z2, FSt true w w' C g R n p (.slice au ls.length cu) (.slice ua ls.length ucc) ls z0 z1 z2)) (by kernel_rfl) ?_ (fun hHeld => ?_)
    · exact mkS4 _ (h3.keep ((Below.refl _ _).drew))
    refine takeW (i := 0) (v := ?_) rfl (by kernel_rfl) (by kernel_rfl) (by kernel_rfl) (fun _ _ _ h => h) (by rfl) ?_ (by assumption) ?_
    rotate_left
    focus (intro w hSw; (try dsimp only at hSw); go_simp; try (with_reducible rfl))
    simp only [Act.put, List.setIfInBounds_toArray, List.set_cons_zero, List.set_cons_succ]
    refine takeW (i := 1) (v := ?_) rfl (by kernel_rfl) (by kernel_rfl) (by kernel_rfl) (fun _ _ _ h => h) (by rfl) ?_ (by assumption) ?_
    rotate_left
    focus (intro w hSw; (try dsimp only at hSw); go_simp; try (with_reducible rfl))
    simp only [Act.put, List.setIfInBounds_toArray, List.set_cons_zero, List.set_cons_succ]
    refine takeW (i := 2) (v := ?_) rfl (by kernel_rfl) (by kernel_rfl) (by kernel_rfl) (fun _ _ _ h => h) (by rfl) ?_ (by assumption) ?_
    rotate_left
    focus (intro w hSw; (try dsimp only at hSw); go_simp; try (with_reducible rfl))
    simp only [Act.put, List.setIfInBounds_toArray, List.set_cons_zero, List.set_cons_succ]
    refine takeW (i := 3) (v := ?_) rfl (by kernel_rfl) (by kernel_rfl) (by kernel_rfl) (fun _ _ _ h => h) (by rfl) ?_ (by assumption) ?_
    rotate_left
    focus (intro w hSw; (try dsimp only at hSw); go_simp; try (with_reducible rfl))
    simp only [Act.put, List.setIfInBounds_toArray, List.set_cons_zero, List.set_cons_succ]
    refine takeW (i := 6) (v := ?_) rfl (by kernel_rfl) (by kernel_rfl) (by kernel_rfl) (fun _ _ _ h => h) (by rfl) ?_ (by assumption) ?_
    rotate_left
    focus (intro w hSw; (try dsimp only at hSw); go_simp; try (with_reducible rfl))
    simp only [Act.put, List.setIfInBounds_toArray, List.set_cons_zero, List.set_cons_succ]
    refine readyTwo (i := 4) (j := 7) (by kernel_rfl) rfl rfl (fun K hK => ?_) (fun K hK => ?_)
    · go_simp
      obtain ⟨z0, z1, z2, hf0⟩ := (show (fun w' : World => w'.cell? ⟨C, 0, none⟩ = some (.int .i64 n) ∧ w'.cell? ⟨g, 0, none⟩ = some (.int .i64 n) ∧ w'.cell? ⟨g, 1, none⟩ = some (tx p) ∧ w'.cell? ⟨g, 2, none⟩ = some (.slice ua ls.length ucc) ∧ ∃ z0 z1 z2, FSt true w w' C g R n p (.slice au ls.length cu) (.slice ua ls.length ucc) ls z0 z1 z2) _ by assumption).2.2.2.2
      refine (pcdig (n, p, ls) (.slice ua ls.length ucc) _ hf0.kt hfit.out h63 (HW.out.below hf0.kb)).mono ?_
      rintro e w9 ⟨rfl, h9⟩
      have hf9 := hf0.keep h9
      have kS : (fun w' : World => w'.cell? ⟨C, 0, none⟩ = some (.int .i64 n) ∧ w'.cell? ⟨g, 0, none⟩ = some (.int .i64 n) ∧ w'.cell? ⟨g, 1, none⟩ = some (tx p) ∧ w'.cell? ⟨g, 2, none⟩ = some (.slice ua ls.length ucc) ∧ ∃ z0 z1 z2, FSt true w w' C g R n p (.slice au ls.length cu) (.slice ua ls.length ucc) ls z0 z1 z2) w9 := mkS4 _ hf9
      go_wp2_with fail
      refine hK.out _ _ kS (fun hHeld => ?_)
      clear hK K
      refine takeW (i := 5) (v := ?_) rfl (by kernel_rfl) (by kernel_rfl) (by kernel_rfl) (fun _ _ _ h => h) (by rfl) ?_ (by assumption) ?_
      rotate_left
      focus (intro w hSw; (try dsimp only at hSw); go_simp; try (with_reducible rfl))
      simp only [Act.put, List.setIfInBounds_toArray, List.set_cons_zero, List.set_cons_succ]
      refine readyTwo (i := 7) (j := 8) (by kernel_rfl) rfl rfl (fun K hK => ?_) (fun K hK => ?_)
      · obtain ⟨wA, hwA⟩ : ∃ x, World.alloc w9 (.cells #[.int .i64 n, tx p, (.slice ua ls.length ucc)] 25) = x := ⟨_, rfl⟩
        obtain ⟨G, hG⟩ : ∃ x, (World.heap w9).size = x := ⟨_, rfl⟩
        have hA : Below (World.heap w9).size w9 wA := by rw [← hwA]; exact (Below.refl _ _).alloc (Nat.le_refl _) _
        have k5 : KBox wA G 25 (.int .i64 n) (tx p) (.slice ua ls.length ucc) := by rw [← hwA, ← hG]; exact KBox.new _ _ _ _ _
        have hRG : R < G := by rw [← hG]; exact hf9.kr.lt
        have hfA := hf9.keep hA
        go_simp
        refine hK.out _ _ ?_ (fun hHeld => ?_)
        · exact mkS4 _ hfA
        clear hK K
        refine readyOne (i := 8) (by kernel_rfl) rfl (fun K hK => ?_)
        obtain ⟨wB, hwB⟩ : ∃ x, World.setCell (World.setCell (World.setCell wA ⟨R, 0, none⟩ (.int .i64 (IntKind.i64.wrap (n + 1)))) ⟨R, 1, none⟩ (tx d)) ⟨R, 2, none⟩ (.slice none 0 0) = x := ⟨_, rfl⟩
        have hfB := hfA.put (.int .i64 (IntKind.i64.wrap (n + 1))) (tx d) (.slice none 0 0)
        obtain ⟨q0, q1, q2⟩ := hfA.kr.cells
        obtain ⟨y0, y1, y2⟩ := hfA.kr.free
        rw [hwB] at hfB
        have k5' := ((k5.other (Nat.ne_of_gt hRG) 0 (.int .i64 (IntKind.i64.wrap (n + 1)))).other (Nat.ne_of_gt hRG) 1 (tx d)).other (Nat.ne_of_gt hRG) 2 (.slice none 0 0)
        rw [hwB] at k5'
        go_simp
        refine hK.out _ _ ?_ (fun hHeld => ?_)
        · exact mkS4 _ hfB
        clear hK K
        have HK5 := k5'
        have HFB := hfB
        obtain ⟨q0, q1, q2⟩ := hfB.kr.cells
        refine takeW (i := 9) (v := ?_) rfl (by kernel_rfl) (by kernel_rfl) (by kernel_rfl) (fun _ _ _ h => h) (by rfl) ?_ (by assumption) ?_
        rotate_left
        focus (intro w hSw; (try dsimp only at hSw); go_simp; try (with_reducible rfl))
        simp only [Act.put, List.setIfInBounds_toArray, List.set_cons_zero, List.set_cons_succ]
        refine wpAnyH_done (by kernel_rfl) ?_ _
        go_wp2
        refine bodyPost_ret (v := .tuple #[.agg #[.int .i64 (IntKind.i64.wrap (n + 1)), tx d, .slice none 0 0], .slice (some ⟨G, 0, none⟩) 1 1]) (by simp [results, Tryd.results13, go_sem, q0, q1, q2]) rfl ?_
        exact ⟨G, (.slice ua ls.length ucc), by rw [hd]; rfl, HK5, HFB.kt, fun k hk => HFB.ky k hk rfl, HFB.kb⟩
      · obtain ⟨wB, hwB⟩ : ∃ x, World.setCell (World.setCell (World.setCell w9 ⟨R, 0, none⟩ (.int .i64 (IntKind.i64.wrap (n + 1)))) ⟨R, 1, none⟩ (tx d)) ⟨R, 2, none⟩ (.slice none 0 0) = x := ⟨_, rfl⟩
        have hfB := hf9.put (.int .i64 (IntKind.i64.wrap (n + 1))) (tx d) (.slice none 0 0)
        obtain ⟨q0, q1, q2⟩ := hf9.kr.cells
        obtain ⟨y0, y1, y2⟩ := hf9.kr.free
        rw [hwB] at hfB
        go_simp
        refine hK.out _ _ ?_ (fun hHeld => ?_)
        · exact mkS4 _ hfB
        clear hK K
        refine readyOne (i := 7) (by kernel_rfl) rfl (fun K hK => ?_)
        obtain ⟨wA, hwA⟩ : ∃ x, World.alloc wB (.cells #[.int .i64 n, tx p, (.slice ua ls.length ucc)] 25) = x := ⟨_, rfl⟩
        obtain ⟨G, hG⟩ : ∃ x, (World.heap wB).size = x := ⟨_, rfl⟩
        have hA : Below (World.heap wB).size wB wA := by rw [← hwA]; exact (Below.refl _ _).alloc (Nat.le_refl _) _
        have k5 : KBox wA G 25 (.int .i64 n) (tx p) (.slice ua ls.length ucc) := by rw [← hwA, ← hG]; exact KBox.new _ _ _ _ _
        have hRG : R < G := by rw [← hG]; exact hfB.kr.lt
        have hfA := hfB.keep hA
        go_simp
        refine hK.out _ _ ?_ (fun hHeld => ?_)
        · exact mkS4 _ hfA
        clear hK K
        have HK5 := k5
        have HFB := hfA
        obtain ⟨q0, q1, q2⟩ := hfA.kr.cells
        refine takeW (i := 9) (v := ?_) rfl (by kernel_rfl) (by kernel_rfl) (by kernel_rfl) (fun _ _ _ h => h) (by rfl) ?_ (by assumption) ?_
        rotate_left
        focus (intro w hSw; (try dsimp only at hSw); go_simp; try (with_reducible rfl))
        simp only [Act.put, List.setIfInBounds_toArray, List.set_cons_zero, List.set_cons_succ]
        refine wpAnyH_done (by kernel_rfl) ?_ _
        go_wp2
        refine bodyPost_ret (v := .tuple #[.agg #[.int .i64 (IntKind.i64.wrap (n + 1)), tx d, .slice none 0 0], .slice (some ⟨G, 0, none⟩) 1 1]) (by simp [results, Tryd.results13, go_sem, q0, q1, q2]) rfl ?_
        exact ⟨G, (.slice ua ls.length ucc), by rw [hd]; rfl, HK5, HFB.kt, fun k hk => HFB.ky k hk rfl, HFB.kb⟩
    · obtain ⟨z0', z1', z2', hfD⟩ := (show (fun w' : World => w'.cell? ⟨C, 0, none⟩ = some (.int .i64 n) ∧ w'.cell? ⟨g, 0, none⟩ = some (.int .i64 n) ∧ w'.cell? ⟨g, 1, none⟩ = some (tx p) ∧ w'.cell? ⟨g, 2, none⟩ = some (.slice ua ls.length ucc) ∧ ∃ z0 z1 z2, FSt true w w' C g R n p (.slice au ls.length cu) (.slice ua ls.length ucc) ls z0 z1 z2) _ by assumption).2.2.2.2
      obtain ⟨wA, hwA⟩ : ∃ x, World.alloc (World.drew w3) (.cells #[.int .i64 n, tx p, (.slice ua ls.length ucc)] 25) = x := ⟨_, rfl⟩
      obtain ⟨G, hG⟩ : ∃ x, (World.heap (World.drew w3)).size = x := ⟨_, rfl⟩
      have hA : Below (World.heap (World.drew w3)).size (World.drew w3) wA := by rw [← hwA]; exact (Below.refl _ _).alloc (Nat.le_refl _) _
      have k5 : KBox wA G 25 (.int .i64 n) (tx p) (.slice ua ls.length ucc) := by rw [← hwA, ← hG]; exact KBox.new _ _ _ _ _
      have hRG : R < G := by rw [← hG]; exact hfD.kr.lt
      have hfA := hfD.keep hA
      go_simp
      refine hK.out _ _ ?_ (fun hHeld => ?_)
      · exact mkS4 _ hfA
      clear hK K
      refine readyOne (i := 4) (by kernel_rfl) rfl (fun K hK => ?_)
      go_simp
      obtain ⟨z0, z1, z2, hf0⟩ := (show (fun w' : World => w'.cell? ⟨C, 0, none⟩ = some (.int .i64 n) ∧ w'.cell? ⟨g, 0, none⟩ = some (.int .i64 n) ∧ w'.cell? ⟨g, 1, none⟩ = some (tx p) ∧ w'.cell? ⟨g, 2, none⟩ = some (.slice ua ls.length ucc) ∧ ∃ z0 z1 z2, FSt true w w' C g R n p (.slice au ls.length cu) (.slice ua ls.length ucc) ls z0 z1 z2) _ by assumption).2.2.2.2
      refine (pcdig (n, p, ls) (.slice ua ls.length ucc) _ hf0.kt hfit.out h63 (HW.out.below hf0.kb)).mono ?_
      rintro e w9 ⟨rfl, h9⟩
      have hf9 := hf0.keep h9
      have kS : (fun w' : World => w'.cell? ⟨C, 0, none⟩ = some (.int .i64 n) ∧ w'.cell? ⟨g, 0, none⟩ = some (.int .i64 n) ∧ w'.cell? ⟨g, 1, none⟩ = some (tx p) ∧ w'.cell? ⟨g, 2, none⟩ = some (.slice ua ls.length ucc) ∧ ∃ z0 z1 z2, FSt true w w' C g R n p (.slice au ls.length cu) (.slice ua ls.length ucc) ls z0 z1 z2) w9 := mkS4 _ hf9
      go_wp2_with fail
      refine hK.out _ _ kS (fun hHeld => ?_)
      clear hK K
      have k5'' := k5.kept h9
      refine takeW (i := 5) (v := ?_) rfl (by kernel_rfl) (by kernel_rfl) (by kernel_rfl) (fun _ _ _ h => h) (by rfl) ?_ (by assumption) ?_
      rotate_left
      focus (intro w hSw; (try dsimp only at hSw); go_simp; try (with_reducible rfl))
      simp only [Act.put, List.setIfInBounds_toArray, List.set_cons_zero, List.set_cons_succ]
      refine readyOne (i := 8) (by kernel_rfl) rfl (fun K hK => ?_)
      obtain ⟨wB, hwB⟩ : ∃ x, World.setCell (World.setCell (World.setCell w9 ⟨R, 0, none⟩ (.int .i64 (IntKind.i64.wrap (n + 1)))) ⟨R, 1, none⟩ (tx d)) ⟨R, 2, none⟩ (.slice none 0 0) = x := ⟨_, rfl⟩
      have hfB := hf9.put (.int .i64 (IntKind.i64.wrap (n + 1))) (tx d) (.slice none 0 0)
      obtain ⟨q0, q1, q2⟩ := hf9.kr.cells
      obtain ⟨y0, y1, y2⟩ := hf9.kr.free
      rw [hwB] at hfB
      have k5' := ((k5''.other (Nat.ne_of_gt hRG) 0 (.int .i64 (IntKind.i64.wrap (n + 1)))).other (Nat.ne_of_gt hRG) 1 (tx d)).other (Nat.ne_of_gt hRG) 2 (.slice none 0 0)
      rw [hwB] at k5'
      go_simp
      refine hK.out _ _ ?_ (fun hHeld => ?_)
      · exact mkS4 _ hfB
      clear hK K
      have HK5 := k5'
      have HFB := hfB
      obtain ⟨q0, q1, q2⟩ := hfB.kr.cells
      refine takeW (i := 9) (v := ?_) rfl (by kernel_rfl) (by kernel_rfl) (by kernel_rfl) (fun _ _ _ h => h) (by rfl) ?_ (by assumption) ?_
      rotate_left
      focus (intro w hSw; (try dsimp only at hSw); go_simp; try (with_reducible rfl))
      simp only [Act.put, List.setIfInBounds_toArray, List.set_cons_zero, List.set_cons_succ]
      refine wpAnyH_done (by kernel_rfl) ?_ _
      go_wp2
      refine bodyPost_ret (v := .tuple #[.agg #[.int .i64 (IntKind.i64.wrap (n + 1)), tx d, .slice none 0 0], .slice (some ⟨G, 0, none⟩) 1 1]) (by simp [results, Tryd.results13, go_sem, q0, q1, q2]) rfl ?_
      exact ⟨G, (.slice ua ls.length ucc), by rw [hd]; rfl, HK5, HFB.kt, fun k hk => HFB.ky k hk rfl, HFB.kb⟩
  · obtain ⟨_, _, _, kc1, kr1, b1⟩ := (show (fun w' : World => w'.cell? ⟨C, 0, none⟩ = some (.int .i64 n) ∧ w'.cell? ⟨C, 1, none⟩ = some (tx p) ∧ w'.cell? ⟨C, 2, none⟩ = some (.slice au ls.length cu) ∧ KBox w' C 24 (.int .i64 n) (tx p) (.slice au ls.length cu) ∧ KBox w' R 24 (.int .i64 0) (.string ⟨#[]⟩) (.slice none 0 0) ∧ Below w0.heap.size w0 w') _ by assumption)
    obtain ⟨wP, hwP⟩ : ∃ x, World.alloc w0.drew (.cells #[.int .i64 0, .string ⟨#[]⟩, .slice none 0 0] 25) = x := ⟨_, rfl⟩
    obtain ⟨g, hg⟩ : ∃ x, (World.heap w0.drew).size = x := ⟨_, rfl⟩
    have hP : Below (World.heap w0.drew).size w0.drew wP := by rw [← hwP]; exact (Below.refl _ _).alloc (Nat.le_refl _) _
    have kP : KBox wP g 25 (.int .i64 0) (.string ⟨#[]⟩) (.slice none 0 0) := by rw [← hwP, ← hg]; exact KBox.new _ _ _ _ _
    obtain ⟨p0, p1, p2⟩ := kP.cells
    obtain ⟨f0, f1, f2⟩ := kP.free
    go_simp
    refine hK.out _ _ ?_ (fun hHeld => ?_)
    · exact ⟨(kc1.kept hP).cells.1, (kc1.kept hP).cells.2.1, (kc1.kept hP).cells.2.2, (kc1.kept hP), (kr1.kept hP), (grow_trans b1 hP)⟩
    clear hK K
    refine readyOne (i := 6) (by kernel_rfl) rfl (fun K hK => ?_)
    go_simp
    obtain ⟨_, _, _, kc2, kr2, b2⟩ := (show (fun w' : World => w'.cell? ⟨C, 0, none⟩ = some (.int .i64 n) ∧ w'.cell? ⟨C, 1, none⟩ = some (tx p) ∧ w'.cell? ⟨C, 2, none⟩ = some (.slice au ls.length cu) ∧ KBox w' C 24 (.int .i64 n) (tx p) (.slice au ls.length cu) ∧ KBox w' R 24 (.int .i64 0) (.string ⟨#[]⟩) (.slice none 0 0) ∧ Below w0.heap.size w0 w') _ by assumption)
    refine (csclone _ ls _ (HU.out.below b2) (by omega)).mono ?_
    rintro e w9 ⟨uc, rfl, ho9, h9⟩
    obtain ⟨ua, ucc, rfl⟩ := (TxAt.own ho9).len
    have kS : (fun w' : World => w'.cell? ⟨C, 0, none⟩ = some (.int .i64 n) ∧ w'.cell? ⟨C, 1, none⟩ = some (tx p) ∧ w'.cell? ⟨C, 2, none⟩ = some (.slice au ls.length cu) ∧ KBox w' C 24 (.int .i64 n) (tx p) (.slice au ls.length cu) ∧ KBox w' R 24 (.int .i64 0) (.string ⟨#[]⟩) (.slice none 0 0) ∧ Below w0.heap.size w0 w') w9 := ⟨(kc2.kept h9).cells.1, (kc2.kept h9).cells.2.1, (kc2.kept h9).cells.2.2, (kc2.kept h9), (kr2.kept h9), (grow_trans b2 h9)⟩
    have b9 := grow_trans b2 h9
    have hs9 := h9.size
    go_wp2_with fail
    refine hK.out _ _ kS (fun hHeld => ?_)
    clear hK K
    refine takeW (i := 7) (v := ?_) rfl (by kernel_rfl) (by kernel_rfl) (by kernel_rfl) (fun _ _ _ h => h) (by rfl) ?_ (by assumption) ?_
    rotate_left
    focus (intro w hSw; (try dsimp only at hSw); go_simp; try (with_reducible rfl))
    simp only [Act.put, List.setIfInBounds_toArray, List.set_cons_zero, List.set_cons_succ]
    refine readyOne (i := 9) (by kernel_rfl) rfl (fun K hK => ?_)
    obtain ⟨p0, p1, p2⟩ := (kP.kept h9).cells
    obtain ⟨f0, f1, f2⟩ := (kP.kept h9).free
    obtain ⟨w3, hw3⟩ : ∃ x, World.setCell (World.setCell (World.setCell w9 ⟨g, 0, none⟩ (.int .i64 n)) ⟨g, 1, none⟩ (tx p)) ⟨g, 2, none⟩ (.slice ua ls.length ucc) = x := ⟨_, rfl⟩
    have hgw : w0.heap.size ≤ g := by rw [← hg]; exact Nat.le_refl _
    have h93 : Below g w9 w3 := by rw [← hw3]; exact below_set3 (Below.refl _ _) (Nat.le_refl _) _ _ _
    have kc3 := ((kc2.kept h9).below h93 (by have := HSZ.out; omega))
    have kr3 := ((kr2.kept h9).below h93 (by have := HSZ.out; omega))
    have b3 := b9.trans (h93.mono hgw)
    have kg3 : KBox w3 g 25 (.int .i64 n) (tx p) (.slice ua ls.length ucc) := by rw [← hw3]; exact (kP.kept h9).set _ _ _
    have hPg : g < wP.heap.size := kP.lt
    have t3 : TxAt w3 (.slice ua ls.length ucc) ls := by rw [← hw3]; exact TxAt.own (ownsRow_setCell_below (ownsRow_setCell_below (ownsRow_setCell_below ho9 (a := ⟨g, 0, none⟩) hPg _) (a := ⟨g, 1, none⟩) hPg _) (a := ⟨g, 2, none⟩) hPg _)
    have hgR : g ≠ R := by have := HSZ.out; omega
    have ty3 : ∀ k, (Value.slice ua ls.length ucc).ownBlock = some k → true = true → TyS w3 k := tys_own2 (base := wP.heap.size) ho9 (fun k hk => by rw [← hw3]; exact (Below.heap_setCell _ ⟨g, 2, none⟩ _ k (Nat.ne_of_gt (Nat.lt_of_lt_of_le hPg hk))).trans ((Below.heap_setCell _ ⟨g, 1, none⟩ _ k (Nat.ne_of_gt (Nat.lt_of_lt_of_le hPg hk))).trans (Below.heap_setCell _ ⟨g, 0, none⟩ _ k (Nat.ne_of_gt (Nat.lt_of_lt_of_le hPg hk)))))
    have hucR : ∀ k, (Value.slice ua ls.length ucc).ownBlock = some k → k ≠ R := fun k hk => by have := (ho9.lt k hk).1; have := HSZ.out; omega
    go_simp
    refine hK.out _ _ ?_ (fun hHeld => ?_)
    · exact ⟨kc3.cells.1, kc3.cells.2.1, kc3.cells.2.2, kc3, kr3, b3⟩
    clear hK K
    refine wpAnyH_done (by kernel_rfl) ?_ _
    have h3 : FSt true w w3 C g R n p (.slice au ls.length cu) (.slice ua ls.length ucc) ls (.int .i64 0) (.string ⟨#[]⟩) (.slice none 0 0) := ⟨kc3, kg3, kr3, t3, g0.trans (b3.mono g0.size), ty3, by have := HSZ.out; omega, by have := HSZ.out; omega, by omega, hgR, hucR⟩
    go_upto_region 4 with fail
    refine wp_region_held_drew (S := (fun w' : World => w'.cell? ⟨C, 0, none⟩ = some (.int .i64 n) ∧ w'.cell? ⟨g, 0, none⟩ = some (.int .i64 n) ∧ w'.cell? ⟨g, 1, none⟩ = some (tx p) ∧ w'.cell? ⟨g, 2, none⟩ = some (.slice ua ls.length ucc) ∧ ∃ z0 z1 z2, FSt true w w' C g R n p (.slice au ls.length cu) (.slice ua ls.length ucc) ls z0 z1 z2)) (by kernel_rfl) ?_ (fun hHeld => ?_)
    · exact mkS4 _ (h3.keep ((Below.refl _ _).drew))
    refine takeW (i := 0) (v := ?_) rfl (by kernel_rfl) (by kernel_rfl) (by kernel_rfl) (fun _ _ _ h => h) (by rfl) ?_ (by assumption) ?_
    rotate_left
    focus (intro w hSw; (try dsimp only at hSw); go_simp; try (with_reducible rfl))
    simp only [Act.put, List.setIfInBounds_toArray, List.set_cons_zero, List.set_cons_succ]
    refine takeW (i := 1) (v := ?_) rfl (by kernel_rfl) (by kernel_rfl) (by kernel_rfl) (fun _ _ _ h => h) (by rfl) ?_ (by assumption) ?_
    rotate_left
    focus (intro w hSw; (try dsimp only at hSw); go_simp; try (with_reducible rfl))
    simp only [Act.put, List.setIfInBounds_toArray, List.set_cons_zero, List.set_cons_succ]
    refine takeW (i := 2) (v := ?_) rfl (by kernel_rfl) (by kernel_rfl) (by kernel_rfl) (fun _ _ _ h => h) (by rfl) ?_ (by assumption) ?_
    rotate_left
    focus (intro w hSw; (try dsimp only at hSw); go_simp; try (with_reducible rfl))
    simp only [Act.put, List.setIfInBounds_toArray, List.set_cons_zero, List.set_cons_succ]
    refine takeW (i := 3) (v := ?_) rfl (by kernel_rfl) (by kernel_rfl) (by kernel_rfl) (fun _ _ _ h => h) (by rfl) ?_ (by assumption) ?_
    rotate_left
    focus (intro w hSw; (try dsimp only at hSw); go_simp; try (with_reducible rfl))
    simp only [Act.put, List.setIfInBounds_toArray, List.set_cons_zero, List.set_cons_succ]
    refine takeW (i := 6) (v := ?_) rfl (by kernel_rfl) (by kernel_rfl) (by kernel_rfl) (fun _ _ _ h => h) (by rfl) ?_ (by assumption) ?_
    rotate_left
    focus (intro w hSw; (try dsimp only at hSw); go_simp; try (with_reducible rfl))
    simp only [Act.put, List.setIfInBounds_toArray, List.set_cons_zero, List.set_cons_succ]
    refine readyTwo (i := 4) (j := 7) (by kernel_rfl) rfl rfl (fun K hK => ?_) (fun K hK => ?_)
    · go_simp
      obtain ⟨z0, z1, z2, hf0⟩ := (show (fun w' : World => w'.cell? ⟨C, 0, none⟩ = some (.int .i64 n) ∧ w'.cell? ⟨g, 0, none⟩ = some (.int .i64 n) ∧ w'.cell? ⟨g, 1, none⟩ = some (tx p) ∧ w'.cell? ⟨g, 2, none⟩ = some (.slice ua ls.length ucc) ∧ ∃ z0 z1 z2, FSt true w w' C g R n p (.slice au ls.length cu) (.slice ua ls.length ucc) ls z0 z1 z2) _ by assumption).2.2.2.2
      refine (pcdig (n, p, ls) (.slice ua ls.length ucc) _ hf0.kt hfit.out h63 (HW.out.below hf0.kb)).mono ?_
      rintro e w9 ⟨rfl, h9⟩
      have hf9 := hf0.keep h9
      have kS : (fun w' : World => w'.cell? ⟨C, 0, none⟩ = some (.int .i64 n) ∧ w'.cell? ⟨g, 0, none⟩ = some (.int .i64 n) ∧ w'.cell? ⟨g, 1, none⟩ = some (tx p) ∧ w'.cell? ⟨g, 2, none⟩ = some (.slice ua ls.length ucc) ∧ ∃ z0 z1 z2, FSt true w w' C g R n p (.slice au ls.length cu) (.slice ua ls.length ucc) ls z0 z1 z2) w9 := mkS4 _ hf9
      go_wp2_with fail
      refine hK.out _ _ kS (fun hHeld => ?_)
      clear hK K
      refine takeW (i := 5) (v := ?_) rfl (by kernel_rfl) (by kernel_rfl) (by kernel_rfl) (fun _ _ _ h => h) (by rfl) ?_ (by assumption) ?_
      rotate_left
      focus (intro w hSw; (try dsimp only at hSw); go_simp; try (with_reducible rfl))
      simp only [Act.put, List.setIfInBounds_toArray, List.set_cons_zero, List.set_cons_succ]
      refine readyTwo (i := 7) (j := 8) (by kernel_rfl) rfl rfl (fun K hK => ?_) (fun K hK => ?_)
      · obtain ⟨wA, hwA⟩ : ∃ x, World.alloc w9 (.cells #[.int .i64 n, tx p, (.slice ua ls.length ucc)] 25) = x := ⟨_, rfl⟩
        obtain ⟨G, hG⟩ : ∃ x, (World.heap w9).size = x := ⟨_, rfl⟩
        have hA : Below (World.heap w9).size w9 wA := by rw [← hwA]; exact (Below.refl _ _).alloc (Nat.le_refl _) _
        have k5 : KBox wA G 25 (.int .i64 n) (tx p) (.slice ua ls.length ucc) := by rw [← hwA, ← hG]; exact KBox.new _ _ _ _ _
        have hRG : R < G := by rw [← hG]; exact hf9.kr.lt
        have hfA := hf9.keep hA
        go_simp
        refine hK.out _ _ ?_ (fun hHeld => ?_)
        · exact mkS4 _ hfA
        clear hK K
        refine readyOne (i := 8) (by kernel_rfl) rfl (fun K hK => ?_)
        obtain ⟨wB, hwB⟩ : ∃ x, World.setCell (World.setCell (World.setCell wA ⟨R, 0, none⟩ (.int .i64 (IntKind.i64.wrap (n + 1)))) ⟨R, 1, none⟩ (tx d)) ⟨R, 2, none⟩ (.slice none 0 0) = x := ⟨_, rfl⟩
        have hfB := hfA.put (.int .i64 (IntKind.i64.wrap (n + 1))) (tx d) (.slice none 0 0)
        obtain ⟨q0, q1, q2⟩ := hfA.kr.cells
        obtain ⟨y0, y1, y2⟩ := hfA.kr.free
        rw [hwB] at hfB
        have k5' := ((k5.other (Nat.ne_of_gt hRG) 0 (.int .i64 (IntKind.i64.wrap (n + 1)))).other (Nat.ne_of_gt hRG) 1 (tx d)).other (Nat.ne_of_gt hRG) 2 (.slice none 0 0)
        rw [hwB] at k5'
        go_simp
        refine hK.out _ _ ?_ (fun hHeld => ?_)
        · exact mkS4 _ hfB
        clear hK K
        have HK5 := k5'
        have HFB := hfB
        obtain ⟨q0, q1, q2⟩ := hfB.kr.cells
        refine takeW (i := 9) (v := ?_) rfl (by kernel_rfl) (by kernel_rfl) (by kernel_rfl) (fun _ _ _ h => h) (by rfl) ?_ (by assumption) ?_
        rotate_left
        focus (intro w hSw; (try dsimp only at hSw); go_simp; try (with_reducible rfl))
        simp only [Act.put, List.setIfInBounds_toArray, List.set_cons_zero, List.set_cons_succ]
        refine wpAnyH_done (by kernel_rfl) ?_ _
        go_wp2
        refine bodyPost_ret (v := .tuple #[.agg #[.int .i64 (IntKind.i64.wrap (n + 1)), tx d, .slice none 0 0], .slice (some ⟨G, 0, none⟩) 1 1]) (by simp [results, Tryd.results13, go_sem, q0, q1, q2]) rfl ?_
        exact ⟨G, (.slice ua ls.length ucc), by rw [hd]; rfl, HK5, HFB.kt, fun k hk => HFB.ky k hk rfl, HFB.kb⟩
      · obtain ⟨wB, hwB⟩ : ∃ x, World.setCell (World.setCell (World.setCell w9 ⟨R, 0, none⟩ (.int .i64 (IntKind.i64.wrap (n + 1)))) ⟨R, 1, none⟩ (tx d)) ⟨R, 2, none⟩ (.slice none 0 0) = x := ⟨_, rfl⟩
        have hfB := hf9.put (.int .i64 (IntKind.i64.wrap (n + 1))) (tx d) (.slice none 0 0)
        obtain ⟨q0, q1, q2⟩ := hf9.kr.cells
        obtain ⟨y0, y1, y2⟩ := hf9.kr.free
        rw [hwB] at hfB
        go_simp
        refine hK.out _ _ ?_ (fun hHeld => ?_)
        · exact mkS4 _ hfB
        clear hK K
        refine readyOne (i := 7) (by kernel_rfl) rfl (fun K hK => ?_)
        obtain ⟨wA, hwA⟩ : ∃ x, World.alloc wB (.cells #[.int .i64 n, tx p, (.slice ua ls.length ucc)] 25) = x := ⟨_, rfl⟩
        obtain ⟨G, hG⟩ : ∃ x, (World.heap wB).size = x := ⟨_, rfl⟩
        have hA : Below (World.heap wB).size wB wA := by rw [← hwA]; exact (Below.refl _ _).alloc (Nat.le_refl _) _
        have k5 : KBox wA G 25 (.int .i64 n) (tx p) (.slice ua ls.length ucc) := by rw [← hwA, ← hG]; exact KBox.new _ _ _ _ _
        have hRG : R < G := by rw [← hG]; exact hfB.kr.lt
        have hfA := hfB.keep hA
        go_simp
        refine hK.out _ _ ?_ (fun hHeld => ?_)
        · exact mkS4 _ hfA
        clear hK K
        have HK5 := k5
        have HFB := hfA
        obtain ⟨q0, q1, q2⟩ := hfA.kr.cells
        refine takeW (i := 9) (v := ?_) rfl (by kernel_rfl) (by kernel_rfl) (by kernel_rfl) (fun _ _ _ h => h) (by rfl) ?_ (by assumption) ?_
        rotate_left
        focus (intro w hSw; (try dsimp only at hSw); go_simp; try (with_reducible rfl))
        simp only [Act.put, List.setIfInBounds_toArray, List.set_cons_zero, List.set_cons_succ]
        refine wpAnyH_done (by kernel_rfl) ?_ _
        go_wp2
        refine bodyPost_ret (v := .tuple #[.agg #[.int .i64 (IntKind.i64.wrap (n + 1)), tx d, .slice none 0 0], .slice (some ⟨G, 0, none⟩) 1 1]) (by simp [results, Tryd.results13, go_sem, q0, q1, q2]) rfl ?_
        exact ⟨G, (.slice ua ls.length ucc), by rw [hd]; rfl, HK5, HFB.kt, fun k hk => HFB.ky k hk rfl, HFB.kb⟩
    · obtain ⟨z0', z1', z2', hfD⟩ := (show (fun w' : World => w'.cell? ⟨C, 0, none⟩ = some (.int .i64 n) ∧ w'.cell? ⟨g, 0, none⟩ = some (.int .i64 n) ∧ w'.cell? ⟨g, 1, none⟩ = some (tx p) ∧ w'.cell? ⟨g, 2, none⟩ = some (.slice ua ls.length ucc) ∧ ∃ z0 z1 z2, FSt true w w' C g R n p (.slice au ls.length cu) (.slice ua ls.length ucc) ls z0 z1 z2) _ by assumption).2.2.2.2
      obtain ⟨wA, hwA⟩ : ∃ x, World.alloc (World.drew w3) (.cells #[.int .i64 n, tx p, (.slice ua ls.length ucc)] 25) = x := ⟨_, rfl⟩
      obtain ⟨G, hG⟩ : ∃ x, (World.heap (World.drew w3)).size = x := ⟨_, rfl⟩
      have hA : Below (World.heap (World.drew w3)).size (World.drew w3) wA := by rw [← hwA]; exact (Below.refl _ _).alloc (Nat.le_refl _) _
      have k5 : KBox wA G 25 (.int .i64 n) (tx p) (.slice ua ls.length ucc) := by rw [← hwA, ← hG]; exact KBox.new _ _ _ _ _
      have hRG : R < G := by rw [← hG]; exact hfD.kr.lt
      have hfA := hfD.keep hA
      go_simp
      refine hK.out _ _ ?_ (fun hHeld => ?_)
      · exact mkS4 _ hfA
      clear hK K
      refine readyOne (i := 4) (by kernel_rfl) rfl (fun K hK => ?_)
      go_simp
      obtain ⟨z0, z1, z2, hf0⟩ := (show (fun w' : World => w'.cell? ⟨C, 0, none⟩ = some (.int .i64 n) ∧ w'.cell? ⟨g, 0, none⟩ = some (.int .i64 n) ∧ w'.cell? ⟨g, 1, none⟩ = some (tx p) ∧ w'.cell? ⟨g, 2, none⟩ = some (.slice ua ls.length ucc) ∧ ∃ z0 z1 z2, FSt true w w' C g R n p (.slice au ls.length cu) (.slice ua ls.length ucc) ls z0 z1 z2) _ by assumption).2.2.2.2
      refine (pcdig (n, p, ls) (.slice ua ls.length ucc) _ hf0.kt hfit.out h63 (HW.out.below hf0.kb)).mono ?_
      rintro e w9 ⟨rfl, h9⟩
      have hf9 := hf0.keep h9
      have kS : (fun w' : World => w'.cell? ⟨C, 0, none⟩ = some (.int .i64 n) ∧ w'.cell? ⟨g, 0, none⟩ = some (.int .i64 n) ∧ w'.cell? ⟨g, 1, none⟩ = some (tx p) ∧ w'.cell? ⟨g, 2, none⟩ = some (.slice ua ls.length ucc) ∧ ∃ z0 z1 z2, FSt true w w' C g R n p (.slice au ls.length cu) (.slice ua ls.length ucc) ls z0 z1 z2) w9 := mkS4 _ hf9
      go_wp2_with fail
      refine hK.out _ _ kS (fun hHeld => ?_)
      clear hK K
      have k5'' := k5.kept h9
      refine takeW (i := 5) (v := ?_) rfl (by kernel_rfl) (by kernel_rfl) (by kernel_rfl) (fun _ _ _ h => h) (by rfl) ?_ (by assumption) ?_
      rotate_left
      focus (intro w hSw; (try dsimp only at hSw); go_simp; try (with_reducible rfl))
      simp only [Act.put, List.setIfInBounds_toArray, List.set_cons_zero, List.set_cons_succ]
      refine readyOne (i := 8) (by kernel_rfl) rfl (fun K hK => ?_)
      obtain ⟨wB, hwB⟩ : ∃ x, World.setCell (World.setCell (World.setCell w9 ⟨R, 0, none⟩ (.int .i64 (IntKind.i64.wrap (n + 1)))) ⟨R, 1, none⟩ (tx d)) ⟨R, 2, none⟩ (.slice none 0 0) = x := ⟨_, rfl⟩
      have hfB := hf9.put (.int .i64 (IntKind.i64.wrap (n + 1))) (tx d) (.slice none 0 0)
      obtain ⟨q0, q1, q2⟩ := hf9.kr.cells
      obtain ⟨y0, y1, y2⟩ := hf9.kr.free
      rw [hwB] at hfB
      have k5' := ((k5''.other (Nat.ne_of_gt hRG) 0 (.int .i64 (IntKind.i64.wrap (n + 1)))).other (Nat.ne_of_gt hRG) 1 (tx d)).other (Nat.ne_of_gt hRG) 2 (.slice none 0 0)
      rw [hwB] at k5'
      go_simp
      refine hK.out _ _ ?_ (fun hHeld => ?_)
      · exact mkS4 _ hfB
      clear hK K
      have HK5 := k5'
      have HFB := hfB
      obtain ⟨q0, q1, q2⟩ := hfB.kr.cells
      refine takeW (i := 9) (v := ?_) rfl (by kernel_rfl) (by kernel_rfl) (by kernel_rfl) (fun _ _ _ h => h) (by rfl) ?_ (by assumption) ?_
      rotate_left
      focus (intro w hSw; (try dsimp only at hSw); go_simp; try (with_reducible rfl))
      simp only [Act.put, List.setIfInBounds_toArray, List.set_cons_zero, List.set_cons_succ]
      refine wpAnyH_done (by kernel_rfl) ?_ _
      go_wp2
      refine bodyPost_ret (v := .tuple #[.agg #[.int .i64 (IntKind.i64.wrap (n + 1)), tx d, .slice none 0 0], .slice (some ⟨G, 0, none⟩) 1 1]) (by simp [results, Tryd.results13, go_sem, q0, q1, q2]) rfl ?_
      exact ⟨G, (.slice ua ls.length ucc), by rw [hd]; rfl, HK5, HFB.kt, fun k hk => HFB.ky k hk rfl, HFB.kb⟩
end Go.Proofs.YtldhkgelifmipaaDoor
