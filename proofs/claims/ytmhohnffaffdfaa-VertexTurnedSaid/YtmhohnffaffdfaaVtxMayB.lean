/- Package vertex as it landed: which batches may be a vertex's. -/
import Derived.Test.YtmhohnffaffdfaaVtxSmall
import Derived.Test.YtmhohnffaffdfaaBtsRow
namespace Vt
theorem allB_hit (n : Int) (l : List Bt.Bat) (k : Nat) (h : k < l.length) (hw : wrongB n l[k] = true) : allB n l = false := by
  rw [allB, decide_eq_false_iff_not]
  intro hh
  rw [hh _ (List.getElem_mem h)] at hw; cases hw
theorem allB_all (n : Int) (l : List Bt.Bat) (h : ∀ j (hj : j < l.length), wrongB n l[j] = false) : allB n l = true := by
  rw [allB, decide_eq_true_iff]
  intro t ht
  obtain ⟨i, hi, rfl⟩ := List.getElem_of_mem ht
  exact h i hi
/-- A bound on each batch's texts. -/
def Small (l : List Bt.Bat) : Prop := ∀ b ∈ l, b.2.2.length ≤ 140737488351232
end Vt
namespace Go.Proofs.Ytmhohnffaffdfaa
open Go.RowKit

theorem pbmay_eq {b : Bt.Bat} {v : Value} {r : Bool} (h : Bt.may b = r) (w : World) (hv : TxAt w v b.2.2) (hl : b.2.2.length ≤ 140737488351232) :
    Calls Try.prog 44 #[batV b.1 b.2.1 v] w fun e w' => e = .returned (.bool r) ∧ Below w.heap.size w w' := by subst h; exact pbmay b.1 b.2.1 v b.2.2 w hv hl
theorem rbmay_eq {b : Bt.Bat} {v : Value} {r : Bool} (h : Bt.may b = r) (w : World) (hv : TxAt w v b.2.2) :
    Calls Try.prog 37 #[batV b.1 b.2.1 v] w fun e w' => e = .returned (.bool r) ∧ Below w.heap.size w w' := by subst h; exact rbmay b.1 b.2.1 v b.2.2 w hv

set_option maxHeartbeats 1000000 in
theorem pwrongB (b : Bt.Bat) (u : Value) (n : Int) (ad : Addr) (w : World) (hu : TxAt w u b.2.2) (hl : b.2.2.length ≤ 140737488351232) (hc : w.cell? ad = some (.int .i64 n)) :
    Calls Try.prog 48 #[batV b.1 b.2.1 u, .pointer (some ad)] w fun e w' => e = .returned (.bool (Vt.wrongB n b)) ∧ Below w.heap.size w w' := by
  have HU := Lib.hid hu
  obtain ⟨r, hr⟩ : ∃ r, Bt.may b = r := ⟨_, rfl⟩
  have hw : Vt.wrongB n b = (!r || decide (n < b.1)) := by rw [Vt.wrongB, hr]
  rw [hw]
  have HR := Lib.hid hr
  clear hw hr
  obtain ⟨o, q, l⟩ := b
  obtain ⟨av, cv, rfl⟩ := hu.len
  simp only [] at HU hl
  have BX := Lib.hid (BBox.new w o q (.slice av l.length cv))
  have HG := Lib.hid (show Below w.heap.size w (w.alloc (.cells #[.int .i64 o, .int .i64 q, .slice av l.length cv] 53)) from (Below.refl _ _).alloc (Nat.le_refl _) _)
  have HC := Lib.hid hc
  clear hu hc
  simp only [batV]
  go_enter Try.func48, Try.ntmps48
  go_wp2_with fail
  refine (pbmay_eq (b := (o, q, l)) HR.out _ (HU.out.below HG.out) hl).mono ?_
  rintro e w1 ⟨rfl, g1⟩
  have b1 := Lib.hid (BX.out.kept g1)
  obtain ⟨c0, _⟩ := b1.out.facts
  have G1 := Lib.hid (HG.out.trans (g1.mono (by simp)))
  have c1 := below_cell G1.out HC.out
  clear g1 HR
  cases r with
  | true =>
    go_wp2
    go_ret
    exact ⟨rfl, G1.out⟩
  | false =>
    go_wp2
    go_ret
    exact ⟨rfl, G1.out⟩

def idxB (n : Int) (l : List Bt.Bat) (r : Int) : Prop := (r = -1 ∧ Vt.allB n l = true) ∨ (0 ≤ r ∧ Vt.allB n l = false)

set_option maxHeartbeats 1000000 in
theorem pidxB (v : Value) (l : List Bt.Bat) (n : Int) (ad : Addr) (w : World) (hv : BtsAt w v l) (hl : l.length ≤ 140737488351232) (hs : Vt.Small l) (hc : w.cell? ad = some (.int .i64 n)) :
    Calls Try.prog 60 #[v, .func (.func 48) #[] #[.pointer (some ad)]] w fun e w' => ∃ r, e = .returned (.int .i64 r) ∧ idxB n l r ∧ Below w.heap.size w w' := by
  rcases hv.cells with ⟨rfl, a, cap, rfl⟩ | ⟨h0, b, off, cap, rfl, hcells⟩
  · clear hv
    go_enter Try.func60, Try.ntmps60
    go_wp2_with fail
    refine wp_loop_rounds 1 ?_
    rw [rounds_succ]
    go_wp2
    go_ret
    exact ⟨_, rfl, .inl ⟨rfl, by simp [Vt.allB]⟩, Below.refl _ _⟩
  · have HC := Lib.hid hcells
    have HS := Lib.hid hs
    have HD := Lib.hid hc
    clear hv hcells hs hc h0
    go_enter Try.func60, Try.ntmps60
    go_wp2_with fail
    go_loopw [5, 8] (fun _ i wr => ∃ k : Nat, i = .int .i64 k ∧ k ≤ l.length ∧ (∀ j (hj : j < l.length), j < k → Vt.wrongB n l[j] = false) ∧ Below w.heap.size w wr) (fun _ i _ => l.length - (intOf i).toNat)
    case atStart => exact ⟨0, rfl, by omega, fun _ _ h => absurd h (by omega), Below.refl _ _⟩
    case round =>
      obtain ⟨k, rfl, hk, hn, hbel⟩ := hrel
      have HN := Lib.hid hn
      have HB := Lib.hid hbel
      clear hn hbel
      by_cases hlt : k < l.length
      · obtain ⟨u, d0, d1, d2, hu⟩ := HC.out k hlt
        have c0 := below_cell HB.out d0
        have c1 := below_cell HB.out d1
        have c2 := below_cell HB.out d2
        have hcl := pwrongB l[k] u n ad wr (hu.below HB.out) (HS.out _ (List.getElem_mem hlt)) (below_cell HB.out HD.out)
        have hstep : Vt.wrongB n l[k] = false → ∀ j (hj : j < l.length), j < k + 1 → Vt.wrongB n l[j] = false := by
          intro he j hj hjk
          by_cases e : j = k
          · subst e; exact he
          · exact HN.out j hj (by omega)
        have hfound : Vt.wrongB n l[k] = true → Vt.allB n l = false := fun he => Vt.allB_hit n l k hlt he
        have HS2 := Lib.hid hstep
        have HF := Lib.hid hfound
        clear hstep hfound d0 d1 d2
        obtain ⟨x, hx⟩ : ∃ x, Vt.wrongB n l[k] = x := ⟨_, rfl⟩
        rw [hx] at hcl
        obtain ⟨av, cv, rfl⟩ := hu.len
        obtain ⟨⟨o, q, m⟩, hy⟩ : ∃ y, l[k] = y := ⟨_, rfl⟩
        rw [hy] at c0 c1 c2 hcl
        simp only [iv] at c0 c1 c2 hcl
        have HL := Lib.hid hcl
        have HX := Lib.hid hx
        clear hcl hx hy hu
        cases x with
        | true =>
          go_wp2_with fail
          refine HL.out.mono ?_
          rintro e w1 ⟨rfl, g1⟩
          have G1 := Lib.hid (grow_trans HB.out g1)
          clear g1
          go_wp2
          go_ret
          exact ⟨_, rfl, .inr ⟨by omega, HF.out HX.out⟩, G1.out⟩
        | false =>
          go_wp2_with fail
          refine HL.out.mono ?_
          rintro e w1 ⟨rfl, g1⟩
          have G1 := Lib.hid (grow_trans HB.out g1)
          clear g1
          go_wp2
          go_roundw
          case rel => exact ⟨k + 1, by go_num, hlt, HS2.out HX.out, G1.out⟩
          case measure => simp [intOf]; omega
      · obtain rfl : k = l.length := by omega
        have HF := Lib.hid (Vt.allB_all n l fun j hj => HN.out j hj hj)
        go_wp2
        go_ret
        exact ⟨_, rfl, .inl ⟨rfl, HF.out⟩, HB.out⟩

set_option maxHeartbeats 1000000 in
theorem pcontB (v : Value) (l : List Bt.Bat) (n : Int) (ad : Addr) (w : World) (hv : BtsAt w v l) (hl : l.length ≤ 140737488351232) (hs : Vt.Small l) (hc : w.cell? ad = some (.int .i64 n)) :
    Calls Try.prog 49 #[v, .func (.func 48) #[] #[.pointer (some ad)]] w fun e w' => e = .returned (.bool (!Vt.allB n l)) ∧ Below w.heap.size w w' := by
  have hi := pidxB v l n ad w hv hl hs hc
  have HI := Lib.hid hi
  clear hv hs hi hc
  cases hm : Vt.allB n l with
  | true =>
    have hx : ∀ r, idxB n l r → r = -1 := fun r hr => by
      rcases hr with ⟨h, _⟩ | ⟨_, h⟩
      · exact h
      · rw [hm] at h; cases h
    have HX := Lib.hid hx
    clear hx hm
    go_enter Try.func49, Try.ntmps49
    go_wp2_with fail
    refine HI.out.mono ?_
    rintro e w1 ⟨r, rfl, hr, hb⟩
    obtain rfl := HX.out r hr
    clear hr
    go_wp2
    go_ret
    exact ⟨rfl, hb⟩
  | false =>
    have hx : ∀ r, idxB n l r → decide (0 ≤ r) = true := fun r hr => by
      rcases hr with ⟨_, h⟩ | ⟨h, _⟩
      · rw [hm] at h; cases h
      · simpa using h
    have HX := Lib.hid hx
    clear hx hm
    go_enter Try.func49, Try.ntmps49
    go_wp2_with fail
    refine HI.out.mono ?_
    rintro e w1 ⟨r, rfl, hr, hb⟩
    have t1 := HX.out r hr
    clear hr
    go_wp2
    go_ret
    exact ⟨rfl, hb⟩

set_option maxHeartbeats 1000000 in
theorem pmayB (v : Value) (l : List Bt.Bat) (n : Int) (w : World) (hv : BtsAt w v l) (hl : l.length ≤ 140737488351232) (hs : Vt.Small l) :
    Calls Try.prog 28 #[v, .int .i64 n] w fun e w' => e = .returned (.bool (Vt.mayB n l)) ∧ Below w.heap.size w w' := by
  obtain ⟨aa, ca, rfl⟩ := hv.len
  have HG := Lib.hid (show Below w.heap.size w (w.alloc (.cells #[.int .i64 n] 3)) from (Below.refl _ _).alloc (Nat.le_refl _) _)
  by_cases h4 : l.length ≤ 4
  · have e : Vt.mayB n l = Vt.allB n l := by rw [Vt.mayB, decide_eq_true h4, Bool.true_and]
    rw [e]
    have t1 : decide ((l.length : Int) ≤ 4) = true := decide_eq_true (by omega)
    have hcc := pcontB (.slice aa l.length ca) l n ⟨w.heap.size, 0, none⟩ _ (hv.below HG.out) hl hs (by simp)
    obtain ⟨x, hx⟩ : ∃ x, Vt.allB n l = x := ⟨_, rfl⟩
    rw [hx] at hcc ⊢
    have HC := Lib.hid hcc
    clear hcc e hx hv hs
    go_enter Try.func28, Try.ntmps28
    go_wp2_with fail
    refine HC.out.mono ?_
    rintro e w1 ⟨rfl, g1⟩
    have G1 := Lib.hid (HG.out.trans (g1.mono (by simp)))
    clear g1
    cases x with
    | true =>
      go_wp2
      go_ret
      exact ⟨rfl, G1.out⟩
    | false =>
      go_wp2
      go_ret
      exact ⟨rfl, G1.out⟩
  · have e : Vt.mayB n l = false := by rw [Vt.mayB, decide_eq_false h4, Bool.false_and]
    rw [e]
    have t1 : decide ((l.length : Int) ≤ 4) = false := decide_eq_false (by omega)
    clear e hv hs h4
    go_enter Try.func28, Try.ntmps28
    go_wp2
    go_ret
    exact ⟨rfl, HG.out⟩
end Go.Proofs.Ytmhohnffaffdfaa
