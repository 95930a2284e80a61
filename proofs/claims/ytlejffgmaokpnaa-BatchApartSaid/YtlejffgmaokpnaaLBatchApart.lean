/- BatchApart: the walk. -/
import Derived.Test.YtlejffgmaokpnaaBatOpen
namespace Bt
theorem bytesR_cases (b : Bat) : (may b = true ∧ bytesR b = (bytes b, 0)) ∨ (may b = false ∧ bytesR b = ([], 1)) := by
  cases h : may b with
  | true => exact .inl ⟨rfl, bytesR_ok h⟩
  | false => exact .inr ⟨rfl, bytesR_no h⟩
end Bt
namespace Go.Proofs.Ytlejffgmaokpnaa
open Go.RowKit Go.ChangeShapes Go.WideShapes Go.ChangeAt

set_option maxHeartbeats 4000000 in
theorem batchApart_core (a b : Bt.Bat) (va vb : Value) (W : World) (ha : TxAt W va a.2.2) (hb : TxAt W vb b.2.2) (la : a.2.2.length ≤ 140737488351232) (lb : b.2.2.length ≤ 140737488351232) :
    Calls Try.prog 6 #[batV a.1 a.2.1 va, batV b.1 b.2.1 vb] W fun e W' => e = .returned (.bool true) ∧ Below W.heap.size W W' := by
  have hap := Bt.apart a b
  obtain ⟨sa, xa, hsa⟩ : ∃ s x, Bt.bytesR a = (s, x) := ⟨_, _, rfl⟩
  obtain ⟨sb, xb, hsb⟩ : ∃ s x, Bt.bytesR b = (s, x) := ⟨_, _, rfl⟩
  have hka := Bt.bytesR_cases a
  have hkb := Bt.bytesR_cases b
  rw [hsa] at hka
  rw [hsb] at hkb
  have RA := Lib.hid hsa
  have RB := Lib.hid hsb
  have HA := Lib.hid ha
  have HB := Lib.hid hb
  have hfin : xa = 0 → xb = 0 → (sa == sb) = (a == b) := by
    intro h1 h2
    rcases hka with ⟨m1, e1⟩ | ⟨_, e1⟩
    · rcases hkb with ⟨m2, e2⟩ | ⟨_, e2⟩
      · simp only [Prod.mk.injEq] at e1 e2
        rw [e1.1, e2.1, Bool.eq_iff_iff, beq_iff_eq, beq_iff_eq]
        exact hap m1 m2
      · simp only [Prod.mk.injEq] at e2; omega
    · simp only [Prod.mk.injEq] at e1; omega
  have hxa : xa = 0 ∨ xa = 1 := by rcases hka with ⟨_, e⟩ | ⟨_, e⟩ <;> simp only [Prod.mk.injEq] at e <;> omega
  have hxb : xb = 0 ∨ xb = 1 := by rcases hkb with ⟨_, e⟩ | ⟨_, e⟩ <;> simp only [Prod.mk.injEq] at e <;> omega
  clear hka hkb hsa hsb hap
  obtain ⟨r, hr⟩ : ∃ r, (a == b) = r := ⟨_, rfl⟩
  have HR := Lib.hid hr
  rw [hr] at hfin
  obtain ⟨x, y, l⟩ := a
  obtain ⟨z, u, m⟩ := b
  obtain ⟨aa, ca, rfl⟩ := ha.len
  obtain ⟨ab, cb, rfl⟩ := hb.len
  simp only [] at HA HB la lb
  have hbA := (BBox.new W x y (.slice aa l.length ca)).alloc (.cells #[.int .i64 z, .int .i64 u, .slice ab m.length cb] 25)
  have hbB := BBox.new (W.alloc (.cells #[.int .i64 x, .int .i64 y, .slice aa l.length ca] 25)) z u (.slice ab m.length cb)
  have hg : Below W.heap.size W ((W.alloc (.cells #[.int .i64 x, .int .i64 y, .slice aa l.length ca] 25)).alloc (.cells #[.int .i64 z, .int .i64 u, .slice ab m.length cb] 25)) := ((Below.refl _ _).alloc (Nat.le_refl _) _).alloc (by simp) _
  have BA := Lib.hid hbA
  have BB := Lib.hid hbB
  have HG := Lib.hid hg
  have HF := Lib.hid hfin
  clear ha hb hr hbA hbB hg hfin
  simp only [batV]
  go_enter Try.func6, Try.ntmps6
  go_wp2_with fail
  refine (batShown _).mono ?_
  rintro e w1 ⟨rfl, g1⟩
  have b1 := Lib.hid (BA.out.kept g1)
  have b2 := Lib.hid (BB.out.kept g1)
  simp only [World.size_alloc] at b2
  obtain ⟨c0, c1, c2, _⟩ := b1.out.facts
  have G1 := Lib.hid (HG.out.trans (g1.mono (by simp; omega)))
  clear g1 BA BB HG
  go_wp2_with fail
  refine (pbbytes_eq (b := (x, y, l)) RA.out _ (HA.out.below G1.out) la).mono ?_
  rintro e w2 ⟨rfl, g2⟩
  have b3 := Lib.hid (b1.out.kept g2)
  have b4 := Lib.hid (b2.out.kept g2)
  obtain ⟨d0, d1, d2, _⟩ := b4.out.facts
  have G2 := Lib.hid (grow_trans G1.out g2)
  clear g2 c0 c1 c2 b1 b2
  go_wp2_with fail
  refine (pbbytes_eq (b := (z, u, m)) RB.out _ (HB.out.below G2.out) lb).mono ?_
  rintro e w3 ⟨rfl, g3⟩
  have b5 := Lib.hid (b3.out.kept g3)
  have b6 := Lib.hid (b4.out.kept g3)
  obtain ⟨c0, c1, c2, _⟩ := b5.out.facts
  obtain ⟨f0, f1, f2, _⟩ := b6.out.facts
  have G3 := Lib.hid (grow_trans G2.out g3)
  clear g3 d0 d1 d2 b3 b4 b5 b6 RA RB
  rcases hxa with rfl | rfl
  · rcases hxb with rfl | rfl
    · have hf := HF.out rfl rfl
      clear HF
      go_wp2_with fail
      refine (rbsame_eq (a := (x, y, l)) (b := (z, u, m)) HR.out _ (HA.out.below G3.out) (HB.out.below G3.out) la).mono ?_
      rintro e w4 ⟨rfl, g4⟩
      have G4 := Lib.hid (grow_trans G3.out g4)
      clear g4 HA HB HR
      cases r with
      | true =>
        go_wp2
        go_ret
        exact ⟨rfl, G4.out⟩
      | false =>
        go_wp2
        go_ret
        exact ⟨rfl, G4.out⟩
    · clear HF
      go_wp2
      go_ret
      exact ⟨rfl, G3.out⟩
  · clear HF
    go_wp2
    go_ret
    exact ⟨rfl, G3.out⟩

theorem batchApart_walk {H : Type} (enc : TypeId × Value → H) (W : World) (base : Nat) (v0 : Value) (v1 : Value) (d0 : DataW H) (d1 : DataW H) (p0 : List MemPlace) (p1 : List MemPlace)
    (h0 : DataW.Trod enc Try.prog W 0 (fun _ => true) true 25 v0 d0 p0) (o0 : Value.okWide Try.prog W .any base 25 v0)
    (h1 : DataW.Trod enc Try.prog W 0 (fun _ => true) true 25 v1 d1 p1) (o1 : Value.okWide Try.prog W .any base 25 v1)
    (hsz : (DataW.weightsEach Try.prog [25, 25] [d0, d1]).all (· ≤ reachBytes) = true) :
    Calls Try.prog 6 #[v0, v1] W fun e W' => e = .returned (.bool true) ∧ Below W.heap.size W W' := by
  obtain ⟨a, va, rfl, ha, la, _⟩ := open_bat o0 h0 (sized_at hsz (j := 0) rfl rfl)
  obtain ⟨b, vb, rfl, hb, lb, _⟩ := open_bat o1 h1 (sized_at hsz (j := 1) rfl rfl)
  exact batchApart_core a b va vb W ha hb (by omega) (by omega)
end Go.Proofs.Ytlejffgmaokpnaa
