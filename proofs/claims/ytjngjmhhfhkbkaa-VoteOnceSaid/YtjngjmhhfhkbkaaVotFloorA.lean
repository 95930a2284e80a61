/- Package vote as it landed: Floor. (Written by gen-vfloor.py.) -/
import Derived.Test.YtjngjmhhfhkbkaaVotGive
import Derived.Test.YtjngjmhhfhkbkaaVoteFloor
import Derived.Laws.IdiomCopy
import Derived.Lib.SliceRun
namespace Vt
/-- How many at the head are above the floor. -/
def lead (low : Int) : List Bl → Nat
  | [] => 0
  | x :: l => if low < x.2.1 then lead low l + 1 else 0
theorem lead_at (low : Int) (l : List Bl) (k : Nat) (hk : k < l.length) (h : ¬ low < l[k].2.1) (hp : ∀ j (hj : j < k), low < (l[j]'(by omega)).2.1) : lead low l = k := by
  induction l generalizing k with
  | nil => simp at hk
  | cons x l ih =>
    rw [lead]
    cases k with
    | zero => rw [if_neg (by simpa using h)]
    | succ k =>
      have h0 := hp 0 (by omega)
      rw [if_pos (by simpa using h0), ih k (by simpa using hk) (by simpa using h) (fun j hj => hp (j + 1) (by omega))]
theorem lead_none (low : Int) (l : List Bl) (hp : ∀ j (hj : j < l.length), low < l[j].2.1) : lead low l = l.length := by
  induction l with
  | nil => rfl
  | cons x l ih =>
    have h0 := hp 0 (by simp)
    rw [lead, if_pos (by simpa using h0), ih (fun j hj => hp (j + 1) (by simp; omega))]
    simp
theorem lead_le (low : Int) (l : List Bl) : lead low l ≤ l.length := by
  induction l with
  | nil => simp [lead]
  | cons x l ih => rw [lead]; split <;> simp; omega
theorem floor_cons (x : Bl) (l : List Bl) (low : Int) : floor (x :: l) low = if low < x.2.1 then x :: floor l low else floor l low := by
  rw [floor, List.filter_cons]
  by_cases h : low < x.2.1
  · simp [h, floor]
  · simp [h, floor]
theorem lead_whole (low : Int) (l : List Bl) (h : lead low l = l.length) : floor l low = l := by
  induction l with
  | nil => rfl
  | cons x l ih =>
    rw [lead] at h
    split at h
    · rename_i hx
      rw [floor_cons, if_pos hx, ih (by simpa using h)]
    · simp at h
theorem lead_cut (low : Int) (l : List Bl) (h : lead low l < l.length) : floor (l.take (lead low l + 1)) low = l.take (lead low l) := by
  induction l with
  | nil => simp [lead] at h
  | cons x l ih =>
    rw [lead] at h ⊢
    split at h
    · rename_i hx
      rw [if_pos hx, List.take_succ_cons, List.take_succ_cons, floor_cons, if_pos hx, ih (by simpa using h)]
    · rename_i hx
      rw [if_neg hx]
      simp [hx, floor]
end Vt
namespace Go.Proofs.Ytjngjmhhfhkbkaa
open Go.RowKit

set_option maxHeartbeats 1000000 in
theorem pfclos (x : Vt.Bl) (low : Int) (B : Nat) (w : World) (h0 : w.cell? ⟨B, 0, none⟩ = some (.int .i64 low)) :
    Calls Try.prog 26 #[bval x, .pointer (some ⟨B, 0, none⟩)] w fun e w' => e = .returned (.bool (decide (x.2.1 ≤ low))) ∧ Below w.heap.size w w' := by
  obtain ⟨z, r, t⟩ := x
  simp only [bval, iv]
  have q0 := below_cell ((Below.refl _ w).alloc (Nat.le_refl _) (.cells #[.int .i64 z, .int .i64 r, tx t] 24)) h0
  go_enter Try.func26, Try.ntmps26
  go_wp2
  go_ret
  exact ⟨rfl, (Below.refl _ _).alloc (Nat.le_refl _) _⟩

def leadI (low : Int) (l : List Vt.Bl) : Int := if Vt.lead low l < l.length then (Vt.lead low l : Int) else -1
set_option maxHeartbeats 2000000 in
theorem pfidx (v : Value) (l : List Vt.Bl) (low : Int) (B : Nat) (w : World) (hv : BalAt w v l) (hl : l.length ≤ 140737488351232) (h0 : w.cell? ⟨B, 0, none⟩ = some (.int .i64 low)) :
    Calls Try.prog 29 #[v, .func (.func 26) #[] #[.pointer (some ⟨B, 0, none⟩)]] w fun e w' => e = .returned (.int .i64 (leadI low l)) ∧ Below w.heap.size w w' := by
  rcases hv with ⟨a, rfl, rfl⟩ | ⟨b, off, cap, rfl, _, _, hc⟩
  · go_enter Try.func29, Try.ntmps29
    go_wp2_with fail
    refine wp_loop_rounds 1 ?_
    rw [rounds_succ]
    go_wp2
    go_ret
    exact ⟨rfl, Below.refl _ _⟩
  · have HC := Lib.hid hc
    have H0 := Lib.hid h0
    clear hc h0
    go_enter Try.func29, Try.ntmps29
    go_wp2_with fail
    go_loopw [5, 8] (fun _ i wr => ∃ k : Nat, i = .int .i64 k ∧ k ≤ l.length ∧ (∀ j (hj : j < l.length), j < k → low < l[j].2.1) ∧ Below w.heap.size w wr) (fun _ i _ => l.length - (intOf i).toNat)
    case atStart => exact ⟨0, rfl, by omega, fun _ _ h => absurd h (by omega), Below.refl _ _⟩
    case round =>
      obtain ⟨k, rfl, hk, hn, hbel⟩ := hrel
      have HN := Lib.hid hn
      have HB := Lib.hid hbel
      clear hn hbel
      by_cases hlt : k < l.length
      · obtain ⟨c1', c2', c3'⟩ := HC.out k hlt
        have c1 := below_cell HB.out c1'
        have c2 := below_cell HB.out c2'
        have c3 := below_cell HB.out c3'
        have hcl := fun W h0 => pfclos l[k] low B W h0
        have hstep : low < l[k].2.1 → ∀ j (hj : j < l.length), j < k + 1 → low < l[j].2.1 := by
          intro he j hj hjk
          by_cases e : j = k
          · subst e; exact he
          · exact HN.out j hj (by omega)
        have hfound : ¬ low < l[k].2.1 → leadI low l = (k : Int) := by
          intro he
          have := Vt.lead_at low l k hlt he (fun j hj => HN.out j (by omega) hj)
          rw [leadI, this, if_pos hlt]
        have HS := Lib.hid hstep
        have HF := Lib.hid hfound
        clear hstep hfound c1' c2' c3'
        obtain ⟨y, hy⟩ : ∃ y, l[k] = y := ⟨_, rfl⟩
        rw [hy] at c1 c2 c3 hcl HS HF
        clear hy
        by_cases hr : y.2.1 ≤ low
        · rw [decide_eq_true hr] at hcl
          have HF2 := Lib.hid (HF.out (by omega))
          clear hr
          go_wp2_with fail
          refine (hcl _ (below_cell HB.out H0.out)).mono ?_
          rintro e w1 ⟨rfl, hb1⟩
          have hb2 := grow_trans HB.out hb1
          go_wp2
          go_ret
          exact ⟨by rw [HF2.out]; rfl, hb2⟩
        · rw [decide_eq_false hr] at hcl
          have HS2 := Lib.hid (HS.out (by omega))
          clear hr
          go_wp2_with fail
          refine (hcl _ (below_cell HB.out H0.out)).mono ?_
          rintro e w1 ⟨rfl, hb1⟩
          have hb2 := grow_trans HB.out hb1
          go_wp2
          go_roundw
          case rel => exact ⟨k + 1, by go_num, hlt, HS2.out, hb2⟩
          case measure => simp [intOf]; omega
      · obtain rfl : k = l.length := by omega
        have hf : leadI low l = -1 := by
          rw [leadI, Vt.lead_none low l (fun j hj => HN.out j hj hj), if_neg (by omega)]
        have HF := Lib.hid hf
        clear hf
        go_wp2
        go_ret
        exact ⟨by rw [HF.out]; rfl, HB.out⟩

/-- The ballots m fill the block g of the call's own. -/
def BalOwn (w : World) (g : Nat) (m : List Vt.Bl) : Prop := BalCells w g 0 m ∧ ∀ i, i < m.length * 3 → w.frozen? ⟨g, i, none⟩ = false
theorem BalOwn.below {w w' : World} {g : Nat} {m : List Vt.Bl} (h : BalOwn w g m) (hg : g < w.heap.size) (hb : Below w.heap.size w w') : BalOwn w' g m :=
  ⟨h.1.below hb, fun i hi => by rw [hb.frozen hg]; exact h.2 i hi⟩
theorem zero_bal (w : World) : (zeroValue 24).run Try.prog w = .ok (.agg #[.int .i64 0, .int .i64 0, .string ⟨#[]⟩]) w := by kernel_rfl
/-- One ballot stored over another one. -/
theorem BalOwn.set {w : World} {g k : Nat} {m : List Vt.Bl} (h : BalOwn w g m) (hk : k < m.length) (s : Vt.Bl) :
    BalOwn (((w.setCell ⟨g, k * 3, none⟩ (iv s.1)).setCell ⟨g, k * 3 + 1, none⟩ (iv s.2.1)).setCell ⟨g, k * 3 + 2, none⟩ (tx s.2.2)) g (m.set k s) := by
  have e : ((w.setCell ⟨g, k * 3, none⟩ (iv s.1)).setCell ⟨g, k * 3 + 1, none⟩ (iv s.2.1)).setCell ⟨g, k * 3 + 2, none⟩ (tx s.2.2) = w.setCells g (k * 3) [iv s.1, iv s.2.1, tx s.2.2] := rfl
  rw [e]
  refine ⟨fun j hj => ?_, fun i hi => ?_⟩
  · have hj' : j < m.length := by simpa using hj
    obtain ⟨c1, c2, c3⟩ := h.1 j hj'
    obtain ⟨d1, d2, d3⟩ := h.1 k hk
    simp only [Nat.zero_add] at c1 c2 c3 d1 d2 d3 ⊢
    by_cases e : j = k
    · subst e
      have hin := World.cell?_setCells_in g [iv s.1, iv s.2.1, tx s.2.2] (j * 3) w (by
        intro i hi
        match i, hi with
        | 0, _ => rw [Nat.add_zero, d1]; rfl
        | 1, _ => rw [d2]; rfl
        | 2, _ => rw [d3]; rfl)
      have i0 := hin 0 (by simp)
      have i1 := hin 1 (by simp)
      have i2 := hin 2 (by simp)
      rw [List.getElem_set_self]
      exact ⟨i0, i1, i2⟩
    · rw [List.getElem_set_ne (Ne.symm e)]
      refine ⟨?_, ?_, ?_⟩
      · rw [World.cell?_setCells_out _ _ _ _ _ (by intro _ _; simp; omega)]; exact c1
      · rw [World.cell?_setCells_out _ _ _ _ _ (by intro _ _; simp; omega)]; exact c2
      · rw [World.cell?_setCells_out _ _ _ _ _ (by intro _ _; simp; omega)]; exact c3
  · rw [World.frozen?_setCells]
    exact h.2 i (by simpa using hi)
end Go.Proofs.Ytjngjmhhfhkbkaa
