/- BatchTurned: the walk. -/
import Derived.Test.YtlejffgmaokpnaaBatOpen
import Derived.Test.YtlejffgmaokpnaaMark
namespace Bt
theorem turned (b : Bat) (k : Nat) (y : UInt8) (h : may b = true) (hk : k < (bytes b).length) (hy : (bytes b)[k] ≠ y) : (take ((bytes b).set k y)).1 ≠ b ∧ ((take ((bytes b).set k y)).2 = 3 ∨ (take ((bytes b).set k y)).2 = 0) := by
  rcases take_or ((bytes b).set k y) with e | ⟨c, e, hm, hc⟩
  · rw [e]
    refine ⟨fun e2 => ?_, .inl rfl⟩
    have := (may_iff b).1 h
    rw [← e2] at this
    simp [none] at this
  · rw [e]
    refine ⟨fun e2 => ?_, .inr rfl⟩
    simp only [] at e2
    subst e2
    apply hy
    have h2 : ((bytes c).set k y)[k]? = (bytes c)[k]? := by rw [← hc]
    rw [List.getElem?_set_self hk, List.getElem?_eq_getElem hk] at h2
    simpa using h2.symm
end Bt
namespace Go.Proofs.Ytlejffgmaokpnaa
open Go.RowKit Go.ChangeShapes Go.WideShapes Go.ChangeAt

theorem MarkRow.store {w : World} {base : Nat} {e : TypeId} {v : Value} {l : List UInt8} (h : MarkRow w base e v l) (k : Nat) (hk : k < l.length) (y : UInt8) :
    ∃ g cap, v = .slice (some ⟨g, 0, none⟩) l.length cap ∧ base ≤ g ∧ (∃ u, w.cell? ⟨g, k, none⟩ = some u) ∧ w.frozen? ⟨g, k, none⟩ = false ∧ MarkRow (w.setCell ⟨g, k, none⟩ (bv y)) base e v (l.set k y) := by
  obtain ⟨g, cap, cur, fz, rfl, hb, hg, hf, hl, hm, hs, ht⟩ := h
  refine ⟨g, cap, rfl, hb, ⟨cur[k]'(by omega), by simp [World.cell?, hg, show k < cur.size by omega]⟩, ?_, g, cap, cur.setIfInBounds k (bv y), fz, by simp, hb, ?_, hf, by simpa using hl, hm, by simpa using hs, ?_⟩
  · obtain ⟨lo, up⟩ := fz
    simp only [World.frozen?, hg, Bool.and_eq_false_iff, decide_eq_false_iff_not]
    simp only at hf
    omega
  · rw [setCell_eq_setRow w g k cur e fz (bv y) hg]
    exact setRow_heap w g cur _ e _ hg
  · simp only [List.length_set, Array.toList_setIfInBounds, List.map_set]
    rw [← ht, List.take_set]

section
variable {H : Type} {enc : TypeId × Value → H} {W : World} {base : Nat} {t : TypeId} {v : Value} {d : DataW H} {p : List MemPlace}
theorem open_byte (ht : Try.prog.underlying t = some (.int .u8)) (o : Value.okWide Try.prog W .any base t v) (h : DataW.Trod enc Try.prog W 0 (fun _ => true) true t v d p) :
    ∃ y : UInt8, v = bv y := by
  obtain ⟨x, rfl, rfl, rfl, wx⟩ := open_int ht o h
  have hb : 0 ≤ x ∧ x ≤ 255 := by simpa [Lit.wf, IntKind.min, IntKind.max, IntKind.signed, IntKind.bits] using wx
  obtain ⟨n, rfl⟩ := Int.eq_ofNat_of_zero_le hb.1
  refine ⟨UInt8.ofNat n, ?_⟩
  have hn : n < 256 := by omega
  simp [bv, UInt8.toNat_ofNat', Nat.mod_eq_of_lt hn]
end
attribute [local go_sem] byte_at

set_option maxHeartbeats 2000000 in
theorem batchTurned_up (b : Bt.Bat) (v : Value) (c : Int) (y : UInt8) (s : List UInt8) (x : Nat) (W : World) (hv : TxAt W v b.2.2) (hl : b.2.2.length ≤ 140737488351232) (hs : Bt.bytesR b = (s, x))
    (h : ((x : Int) != 0) = true ∨ (x = 0 ∧ c < 0) ∨ (x = 0 ∧ 0 ≤ c ∧ (s.length : Int) ≤ c)) :
    Calls Try.prog 7 #[batV b.1 b.2.1 v, .int .i64 c, bv y] W fun e W' => e = .returned (.bool true) ∧ Below W.heap.size W W' := by
  have HR := Lib.hid hs
  have HV := Lib.hid hv
  obtain ⟨o, q, l⟩ := b
  obtain ⟨av, cv, rfl⟩ := hv.len
  simp only [] at HV hl
  have BX := Lib.hid (BBox.new W o q (.slice av l.length cv))
  have HG := Lib.hid (show Below W.heap.size W (W.alloc (.cells #[.int .i64 o, .int .i64 q, .slice av l.length cv] 25)) from (Below.refl _ _).alloc (Nat.le_refl _) _)
  have HH := Lib.hid h
  clear hv hs h
  simp only [batV, bv]
  go_enter Try.func7, Try.ntmps7
  go_wp2_with fail
  refine (batShown _).mono ?_
  rintro e w1 ⟨rfl, g1⟩
  have b1 := Lib.hid (BX.out.kept g1)
  obtain ⟨c0, c1, c2, _⟩ := b1.out.facts
  have G1 := Lib.hid (HG.out.trans (g1.mono (by simp)))
  clear g1
  go_wp2_with fail
  refine (pbbytes_eq (b := (o, q, l)) HR.out _ (HV.out.below G1.out) hl).mono ?_
  rintro e w2 ⟨rfl, g2⟩
  have G2 := Lib.hid (grow_trans G1.out g2)
  clear g2 c0 c1 c2
  rcases HH.out with h | ⟨rfl, h⟩ | ⟨rfl, h0, h⟩
  · go_wp2
    go_ret
    exact ⟨rfl, G2.out⟩
  · have t1 : decide (c < 0) = true := decide_eq_true h
    clear h
    go_wp2
    go_ret
    exact ⟨rfl, G2.out⟩
  · have t1 : decide (c < 0) = false := decide_eq_false (by omega)
    have t2 : decide ((s.length : Int) ≤ c) = true := decide_eq_true h
    clear h h0
    go_wp2
    go_ret
    exact ⟨rfl, G2.out⟩

set_option maxHeartbeats 2000000 in
theorem batchTurned_same (b : Bt.Bat) (v : Value) (k : Nat) (y : UInt8) (W : World) (hv : TxAt W v b.2.2) (hl : b.2.2.length ≤ 140737488351232) (hm : Bt.may b = true) (hk : k < (Bt.bytes b).length) (hy : (Bt.bytes b)[k] = y) :
    Calls Try.prog 7 #[batV b.1 b.2.1 v, .int .i64 k, bv y] W fun e W' => e = .returned (.bool true) ∧ Below W.heap.size W W' := by
  have HR := Lib.hid (Bt.bytesR_ok hm)
  have hsl := Bt.bytes_len b hm
  have HV := Lib.hid hv
  obtain ⟨o, q, l⟩ := b
  obtain ⟨av, cv, rfl⟩ := hv.len
  simp only [] at HV hl
  have BX := Lib.hid (BBox.new W o q (.slice av l.length cv))
  have HG := Lib.hid (show Below W.heap.size W (W.alloc (.cells #[.int .i64 o, .int .i64 q, .slice av l.length cv] 25)) from (Below.refl _ _).alloc (Nat.le_refl _) _)
  clear hv hm
  generalize Bt.bytes (o, q, l) = s at *
  subst hy
  simp only [batV, bv]
  go_enter Try.func7, Try.ntmps7
  go_wp2_with fail
  refine (batShown _).mono ?_
  rintro e w1 ⟨rfl, g1⟩
  have b1 := Lib.hid (BX.out.kept g1)
  obtain ⟨c0, c1, c2, _⟩ := b1.out.facts
  have G1 := Lib.hid (HG.out.trans (g1.mono (by simp)))
  clear g1
  go_wp2_with fail
  refine (pbbytes_eq (b := (o, q, l)) HR.out _ (HV.out.below G1.out) hl).mono ?_
  rintro e w2 ⟨rfl, g2⟩
  have G2 := Lib.hid (grow_trans G1.out g2)
  clear g2 c0 c1 c2
  go_wp2
  go_ret
  exact ⟨rfl, G2.out⟩

/-- 'string(b)' of such a block. -/
theorem MarkRow.text {w : World} {base : Nat} {v : Value} {l : List UInt8} (h : MarkRow w base 5 v l) :
    (convert 37 9 v).run Try.prog w = .ok (tx l) w := by
  obtain ⟨g, cap, rfl, hc⟩ := h.cell
  rw [run_convert_bytes_arg (P := Try.prog) w 37 5 Try.underlying37 Try.underlying5 g 0 l.length cap (l.map fun y => (y.toNat : Int)) (by simp) hc 9 Try.underlying9, strOfNums_bytes]

set_option maxHeartbeats 2000000 in
theorem batchTurned_other (b : Bt.Bat) (v : Value) (k : Nat) (y : UInt8) (W : World) (hv : TxAt W v b.2.2) (hl : b.2.2.length ≤ 140737488351232) (hm : Bt.may b = true) (hk : k < (Bt.bytes b).length) (hy : (Bt.bytes b)[k] ≠ y) :
    Calls Try.prog 7 #[batV b.1 b.2.1 v, .int .i64 k, bv y] W fun e W' => e = .returned (.bool true) ∧ Below W.heap.size W W' := by
  have HR := Lib.hid (Bt.bytesR_ok hm)
  have hsl := Bt.bytes_len b hm
  obtain ⟨ht1, ht2⟩ := Bt.turned b k y hm hk hy
  have HV := Lib.hid hv
  obtain ⟨o, q, l⟩ := b
  obtain ⟨av, cv, rfl⟩ := hv.len
  simp only [] at HV hl
  have BX := Lib.hid (BBox.new W o q (.slice av l.length cv))
  have HG := Lib.hid (show Below W.heap.size W (W.alloc (.cells #[.int .i64 o, .int .i64 q, .slice av l.length cv] 25)) from (Below.refl _ _).alloc (Nat.le_refl _) _)
  clear hv hm
  generalize Bt.bytes (o, q, l) = s at *
  obtain ⟨⟨⟨x, z, m⟩, er⟩, hR⟩ : ∃ R, Bt.take (s.set k y) = R := ⟨_, rfl⟩
  rw [hR] at ht1 ht2
  simp only [] at ht1 ht2
  have HT := Lib.hid hR
  have HF := Lib.hid (show (((o, q, l) : Bt.Bat) == (x, z, m)) = false from beq_eq_false_iff_ne.2 fun e => ht1 e.symm)
  have HY := Lib.hid hy
  have t1 : decide ((k : Int) < 0) = false := decide_eq_false (by omega)
  have t2 : decide ((s.length : Int) ≤ k) = false := decide_eq_false (by omega)
  have t3 : ((s[k].toNat : Int) == (y.toNat : Int)) = false := by
    rw [beq_eq_false_iff_ne]
    intro e
    exact hy (UInt8.toNat_inj.1 (by omega))
  have HE := Lib.hid ht2
  clear ht1 hR hy ht2
  simp only [batV, bv]
  go_enter Try.func7, Try.ntmps7
  go_wp2_with fail
  refine (batShown _).mono ?_
  rintro e w1 ⟨rfl, g1⟩
  have b1 := Lib.hid (BX.out.kept g1)
  obtain ⟨c0, c1, c2, _⟩ := b1.out.facts
  have G1 := Lib.hid (HG.out.trans (g1.mono (by simp)))
  clear g1
  go_wp2_with fail
  refine (pbbytes_eq (b := (o, q, l)) HR.out _ (HV.out.below G1.out) hl).mono ?_
  rintro e w2 ⟨rfl, g2⟩
  have b2 := Lib.hid (b1.out.kept g2)
  have G2 := Lib.hid (grow_trans G1.out g2)
  clear g2 c0 c1 c2 b1
  obtain ⟨u, w3, hrun, hmk, g3⟩ := MarkRow.made (P := Try.prog) w2 9 37 5 s (by unfold maxLen; omega) Try.underlying9 Try.underlying37 Try.underlying5
  obtain ⟨g, cap, rfl, hgb, ⟨uc, hcell⟩, hfz, hmk2⟩ := hmk.store k hk y
  have hne : g ≠ W.heap.size := by have := b2.out.lt; omega
  have G3 := Lib.hid ((grow_trans G2.out g3).setCell (p := ⟨g, k, none⟩) (show W.heap.size ≤ g by have := b2.out.lt; omega) (bv y))
  have b3 := Lib.hid ((b2.out.kept g3).below (((Below.refl w2.heap.size w3).setCell (p := ⟨g, k, none⟩) hgb (bv y))) b2.out.lt)
  have htxt := hmk2.text
  simp only [bv] at htxt
  have hln : k < s.length := hk
  clear hmk hmk2
  go_wp2_with fail
  refine (pbtake_eq HT.out (by rw [List.length_set]; omega) _).mono ?_
  rintro e w4 ⟨vb, rfl, tb, g4⟩
  obtain ⟨ab, cb, rfl⟩ := tb.len
  have G4 := Lib.hid ((grow_trans G3.out g4).alloc (grow_trans G3.out g4).size (.cells #[.int .i64 x, .int .i64 z, .slice ab m.length cb] 25))
  have b4 := Lib.hid ((b3.out.kept g4).alloc (.cells #[.int .i64 x, .int .i64 z, .slice ab m.length cb] 25))
  obtain ⟨c0, c1, c2, _⟩ := b4.out.facts
  have TB := Lib.hid (tb.below ((Below.refl _ _).alloc (Nat.le_refl _) (.cells #[.int .i64 x, .int .i64 z, .slice ab m.length cb] 25)))
  clear htxt hrun hcell hfz hne g4 tb
  go_wp2_with fail
  refine (rbsame_eq (a := (o, q, l)) (b := (x, z, m)) HF.out _ (HV.out.below G4.out) TB.out hl).mono ?_
  rintro e w5 ⟨rfl, g5⟩
  have G5 := Lib.hid (grow_trans G4.out g5)
  clear g5 c0 c1 c2
  rcases HE.out with rfl | rfl
  · go_wp2
    go_ret
    exact ⟨rfl, G5.out⟩
  · go_wp2
    go_ret
    exact ⟨rfl, G5.out⟩

theorem batchTurned_walk {H : Type} (enc : TypeId × Value → H) (W : World) (base : Nat) (v0 : Value) (v1 : Value) (v2 : Value) (d0 : DataW H) (d1 : DataW H) (d2 : DataW H) (p0 : List MemPlace) (p1 : List MemPlace) (p2 : List MemPlace)
    (h0 : DataW.Trod enc Try.prog W 0 (fun _ => true) true 25 v0 d0 p0) (o0 : Value.okWide Try.prog W .any base 25 v0)
    (h1 : DataW.Trod enc Try.prog W 0 (fun _ => true) true 3 v1 d1 p1) (o1 : Value.okWide Try.prog W .any base 3 v1)
    (h2 : DataW.Trod enc Try.prog W 0 (fun _ => true) true 5 v2 d2 p2) (o2 : Value.okWide Try.prog W .any base 5 v2)
    (hsz : (DataW.weightsEach Try.prog [25, 3, 5] [d0, d1, d2]).all (· ≤ reachBytes) = true) :
    Calls Try.prog 7 #[v0, v1, v2] W fun e W' => e = .returned (.bool true) ∧ Below W.heap.size W W' := by
  obtain ⟨b, vb, rfl, hb, lb, _⟩ := open_bat o0 h0 (sized_at hsz (j := 0) rfl rfl)
  obtain ⟨c, _, _, rfl, rfl, rfl⟩ := open_i64 Try.underlying3 o1 h1
  obtain ⟨y, rfl⟩ := open_byte Try.underlying5 o2 h2
  cases hm : Bt.may b with
  | false => exact batchTurned_up b vb c y [] 1 W hb (by omega) (Bt.bytesR_no hm) (.inl rfl)
  | true =>
    by_cases hc : c < 0
    · exact batchTurned_up b vb c y _ 0 W hb (by omega) (Bt.bytesR_ok hm) (.inr (.inl ⟨rfl, hc⟩))
    · by_cases hl : ((Bt.bytes b).length : Int) ≤ c
      · exact batchTurned_up b vb c y _ 0 W hb (by omega) (Bt.bytesR_ok hm) (.inr (.inr ⟨rfl, by omega, hl⟩))
      · obtain ⟨k, rfl⟩ := Int.eq_ofNat_of_zero_le (show 0 ≤ c by omega)
        by_cases hy : (Bt.bytes b)[k]'(by omega) = y
        · exact batchTurned_same b vb k y W hb (by omega) hm (by omega) hy
        · exact batchTurned_other b vb k y W hb (by omega) hm (by omega) hy
end Go.Proofs.Ytlejffgmaokpnaa
