/- Package vertex as it landed: all batches as bytes. -/
import Derived.Test.YtmhohnffaffdfaaVtxMay
namespace Go.Proofs.Ytmhohnffaffdfaa
open Go.RowKit

theorem pbbytes_eq {b : Bt.Bat} {v : Value} {R : List UInt8 × Nat} (h : Bt.bytesR b = R) (w : World) (hv : TxAt w v b.2.2) (hl : b.2.2.length ≤ 140737488351232) :
    Calls Try.prog 24 #[batV b.1 b.2.1 v] w fun e w' => e = .returned (.tuple #[tx R.1, .int .i64 R.2]) ∧ Below w.heap.size w w' := by subst h; exact pbbytes b.1 b.2.1 v b.2.2 w hv hl
theorem may_small {b : Bt.Bat} (h : Bt.may b = true) : b.2.2.length ≤ 140737488351232 := by
  have := (Bt.may_iff b).1 h; omega

set_option maxHeartbeats 1000000 in
theorem pbytesC (b : Bt.Bat) (u : Value) (w : World) (hu : TxAt w u b.2.2) (hm : Bt.may b = true) :
    Calls Try.prog 23 #[batV b.1 b.2.1 u] w fun e w' => e = .returned (.tuple #[tx (Bt.bytes b), .int .i64 0]) ∧ Below w.heap.size w w' := by
  have hl := may_small hm
  have HR := Lib.hid (Bt.bytesR_ok hm)
  have HU := Lib.hid hu
  obtain ⟨o, q, l⟩ := b
  obtain ⟨av, cv, rfl⟩ := hu.len
  simp only [] at HU hl
  have BX := Lib.hid (BBox.new w o q (.slice av l.length cv))
  have HG := Lib.hid (show Below w.heap.size w (w.alloc (.cells #[.int .i64 o, .int .i64 q, .slice av l.length cv] 53)) from (Below.refl _ _).alloc (Nat.le_refl _) _)
  clear hu hm
  simp only [batV]
  go_enter Try.func23, Try.ntmps23
  go_wp2_with fail
  refine (pbbytes_eq (b := (o, q, l)) HR.out _ (HU.out.below HG.out) hl).mono ?_
  rintro e w1 ⟨rfl, g1⟩
  have G1 := Lib.hid (HG.out.trans (g1.mono (by simp)))
  clear g1
  go_wp2
  go_ret2
  exact ⟨rfl, G1.out⟩

set_option maxHeartbeats 2000000 in
theorem peachB (v : Value) (l : List Bt.Bat) (w : World) (hv : BtsAt w v l) (h4 : l.length ≤ 4) (hm : ∀ b ∈ l, Bt.may b = true) :
    Calls Try.prog 22 #[v, .func (.func 23) #[] #[]] w fun e w' => ∃ u, e = .returned (.tuple #[u, .int .i64 0]) ∧ TxAt w' u (l.map Bt.bytes) ∧ Below w.heap.size w w' := by
  obtain ⟨i0, hi, hz0, hz1, hz2⟩ := info_parts info_text
  have HM := Lib.hid hm
  clear hm
  rcases hv.cells with ⟨rfl, a, cap, rfl⟩ | ⟨h0, b, off, cap, rfl, hcells⟩
  · clear hv
    go_enter Try.func22, Try.ntmps22
    go_wp2_with fail
    refine wp_loop_rounds 1 ?_
    rw [rounds_succ]
    go_wp2
    go_ret2
    exact ⟨_, rfl, .inl ⟨_, _, rfl, rfl⟩, Below.refl _ _⟩
  have HC := Lib.hid hcells
  obtain ⟨xs, hxs⟩ : ∃ xs : Nat → List Value, ∀ k, xs k = ((l.take k).map Bt.bytes).map tx := ⟨_, fun _ => rfl⟩
  have hx0 : xs 0 = [] := by rw [hxs]; rfl
  have XS := Lib.hid hxs
  have X0 := Lib.hid hx0
  clear hv hcells h0 hxs hx0
  go_enter Try.func22, Try.ntmps22
  go_wp2_with fail
  go_loopw [6, 13] (fun v i wr => ∃ k : Nat, i = .int .i64 k ∧ k ≤ l.length ∧ Below w.heap.size w wr ∧ wr.ownsRow w.heap.size 9 1 v k (xs k)) (fun _ i _ => l.length - (intOf i).toNat)
  case atStart => exact ⟨0, rfl, by omega, Below.refl _ _, by rw [X0.out]; exact ⟨rfl, .inl ⟨rfl, rfl⟩⟩⟩
  case round =>
    obtain ⟨k, rfl, hk, hbel, hown⟩ := hrel
    have HB := Lib.hid hbel
    have HO := Lib.hid hown
    clear hbel hown
    by_cases hlt : k < l.length
    · obtain ⟨u, d0, d1, d2, hu⟩ := HC.out k hlt
      have c0 := below_cell HB.out d0
      have c1 := below_cell HB.out d1
      have c2 := below_cell HB.out d2
      have hmk := HM.out _ (List.getElem_mem hlt)
      have htk : xs k ++ [tx (Bt.bytes l[k])] = xs (k + 1) := by
        rw [XS.out, XS.out, List.take_succ_eq_append_getElem hlt, List.map_append, List.map_append]; rfl
      have HU := Lib.hid (hu.below HB.out)
      have TK := Lib.hid htk
      obtain ⟨au, cu, rfl⟩ := hu.len
      clear d0 d1 d2 hu htk
      generalize l[k] = y at *
      obtain ⟨o, q, m⟩ := y
      simp only [iv] at c0 c1 c2 HU
      have hcl := pbytesC (o, q, m) (.slice au m.length cu) (wr.alloc (.cells #[.int .i64 o, .int .i64 q, .slice au m.length cu] 53)) (HU.out.below ((Below.refl _ _).alloc (Nat.le_refl _) _)) hmk
      have HL := Lib.hid hcl
      clear hcl hmk
      generalize Bt.bytes (o, q, m) = s at *
      go_wp2_with fail
      refine HL.out.mono ?_
      rintro e w1 ⟨rfl, g1⟩
      have G1 := Lib.hid ((HB.out.alloc HB.out.size (.cells #[.int .i64 o, .int .i64 q, .slice au m.length cu] 53)).trans (g1.mono (by have := HB.out.size; simp; omega)))
      have gw : Below wr.heap.size wr w1 := ((Below.refl _ _).alloc (Nat.le_refl _) _).trans (g1.mono (by simp))
      have HO1 := Lib.hid (own_below HO.out gw (fun g hg => (HO.out.lt g hg).2))
      clear g1 gw HO
      go_wp2_with (at_builtin; refine wpList_append_own _ rfl _ _ 24 rfl w.heap.size 9 i0 (.string ⟨#[]⟩) 1 16 Try.underlying24 hi hz0 hz1 hz2 rfl (by decide) _ _ _ rfl (HO1.out.alloc _) ⟨w1.heap.size, 0, none⟩ 1 1 [tx s] rfl rfl ?c1 ?c2 ?c3 ?c4 ?c5 ?_)
      case c1 => exact new_cell _ _ rfl _ _
      case c2 => intro u hu; simp at hu; subst hu; rfl
      case c3 => unfold maxLen; omega
      case c4 => omega
      case c5 => have := G1.out.size; simp; omega
      intro v' w2 hown2 hgrow _
      rw [TK.out] at hown2
      have HO3 := Lib.hid hown2
      have hbel2 : Below w.heap.size w w2 := (G1.out.alloc G1.out.size _).grown hgrow (by have := G1.out.size; simp; omega) (fun k hk => (HO1.out.lt k hk).1)
      have HB2 := Lib.hid hbel2
      clear hown2 hgrow HO1 hbel2
      go_wp2
      go_roundw
      case rel => exact ⟨k + 1, by go_num, by omega, HB2.out, HO3.out⟩
      case measure => simp [intOf]; omega
    · obtain rfl : k = l.length := by omega
      have hT := HO.out
      rw [XS.out, List.take_length] at hT
      have HT := Lib.hid (TxAt.own hT)
      clear hT
      go_wp2
      go_ret2
      exact ⟨_, rfl, HT.out, HB.out⟩
end Go.Proofs.Ytmhohnffaffdfaa
