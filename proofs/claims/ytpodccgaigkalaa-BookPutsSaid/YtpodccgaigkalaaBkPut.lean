/- Package book as it landed: Put. -/
import Derived.Test.YtpodccgaigkalaaBkGo
namespace Go.Proofs.Ytpodccgaigkalaa
open Go.RowKit

/-- Where a seal belongs. -/
def idxN (s : Bk.Sl) : List Bk.Sl → Nat
  | [] => 0
  | t :: l => if Bk.ahead s t then 0 else idxN s l + 1
theorem idxN_le (s : Bk.Sl) (l : List Bk.Sl) : idxN s l ≤ l.length := by
  induction l with
  | nil => simp [idxN]
  | cons t l ih => rw [idxN]; split <;> simp; omega
theorem ins_idx (s : Bk.Sl) (l : List Bk.Sl) : Bk.ins s l = l.take (idxN s l) ++ s :: l.drop (idxN s l) := by
  induction l with
  | nil => rfl
  | cons t l ih =>
    rw [Bk.ins, idxN]
    split
    · simp
    · simp [ih]
theorem idxN_at (s : Bk.Sl) (l : List Bk.Sl) (k : Nat) (hk : k < l.length) (h : Bk.ahead s l[k] = true) (hp : ∀ j (hj : j < k), Bk.ahead s (l[j]'(by omega)) = false) : idxN s l = k := by
  induction l generalizing k with
  | nil => simp at hk
  | cons t l ih =>
    rw [idxN]
    cases k with
    | zero => rw [if_pos (by simpa using h)]
    | succ k =>
      have h0 := hp 0 (by omega)
      rw [if_neg (by simpa using h0), ih k (by simpa using hk) (by simpa using h) (fun j hj => hp (j + 1) (by omega))]
theorem idxN_none (s : Bk.Sl) (l : List Bk.Sl) (hp : ∀ j (hj : j < l.length), Bk.ahead s l[j] = false) : idxN s l = l.length := by
  induction l with
  | nil => rfl
  | cons t l ih =>
    have h0 := hp 0 (by simp)
    rw [idxN, if_neg (by simpa using h0), ih (fun j hj => hp (j + 1) (by simp; omega))]
    simp

set_option maxHeartbeats 1000000 in
theorem pclos (x s : Bk.Sl) (B : Nat) (w : World) (h0 : w.cell? ⟨B, 0, none⟩ = some (iv s.1)) (h1 : w.cell? ⟨B, 1, none⟩ = some (tx s.2)) :
    Calls Try.prog 25 #[sv x, .pointer (some ⟨B, 0, none⟩)] w fun e w' => e = .returned (.bool (Bk.ahead s x)) ∧ Below w.heap.size w w' := by
  have hc := fun W => pcompare x s W
  have hp := cmpS_pos x s
  generalize cmpS x s = r at *
  rw [← hp]
  clear hp
  have q0 := below_cell ((Below.refl _ w).alloc (Nat.le_refl _) (.cells #[iv x.1, tx x.2] 24)) h0
  have q1 := below_cell ((Below.refl _ w).alloc (Nat.le_refl _) (.cells #[iv x.1, tx x.2] 24)) h1
  go_enter Try.func25, Try.ntmps25
  go_wp2_with fail
  refine (hc _).mono ?_
  rintro e w1 ⟨rfl, hb⟩
  have hb2 : Below w.heap.size w w1 := ((Below.refl _ _).alloc (Nat.le_refl _) _).trans (hb.mono (by simp))
  go_wp2
  go_ret
  exact ⟨rfl, hb2⟩

def idxI (s : Bk.Sl) (l : List Bk.Sl) : Int := if idxN s l < l.length then (idxN s l : Int) else -1
set_option maxHeartbeats 2000000 in
theorem pidx (v : Value) (l : List Bk.Sl) (s : Bk.Sl) (B : Nat) (w : World) (hv : BookAt w v l) (hl : l.length ≤ 140737488351232) (h0 : w.cell? ⟨B, 0, none⟩ = some (iv s.1)) (h1 : w.cell? ⟨B, 1, none⟩ = some (tx s.2)) :
    Calls Try.prog 24 #[v, .func (.func 25) #[] #[.pointer (some ⟨B, 0, none⟩)]] w fun e w' => e = .returned (.int .i64 (idxI s l)) ∧ Below w.heap.size w w' := by
  rcases hv with ⟨a, rfl, rfl⟩ | ⟨b, off, cap, rfl, _, _, hc⟩
  · go_enter Try.func24, Try.ntmps24
    go_wp2_with fail
    refine wp_loop_rounds 1 ?_
    rw [rounds_succ]
    go_wp2
    go_ret
    exact ⟨rfl, Below.refl _ _⟩
  · have HC := Lib.hid hc
    have H0 := Lib.hid h0
    have H1 := Lib.hid h1
    clear hc h0 h1
    go_enter Try.func24, Try.ntmps24
    go_wp2_with fail
    go_loopw [5, 8] (fun _ i wr => ∃ k : Nat, i = .int .i64 k ∧ k ≤ l.length ∧ (∀ j (hj : j < l.length), j < k → Bk.ahead s l[j] = false) ∧ Below w.heap.size w wr) (fun _ i _ => l.length - (intOf i).toNat)
    case atStart => exact ⟨0, rfl, by omega, fun _ _ h => absurd h (by omega), Below.refl _ _⟩
    case round =>
      obtain ⟨k, rfl, hk, hn, hbel⟩ := hrel
      have HN := Lib.hid hn
      have HB := Lib.hid hbel
      clear hn hbel
      by_cases hlt : k < l.length
      · obtain ⟨c1', c2'⟩ := HC.out k hlt
        have c1 := below_cell HB.out c1'
        have c2 := below_cell HB.out c2'
        have hcl := fun W h0 h1 => pclos l[k] s B W h0 h1
        have hstep : Bk.ahead s l[k] = false → ∀ j (hj : j < l.length), j < k + 1 → Bk.ahead s l[j] = false := by
          intro he j hj hjk
          by_cases e : j = k
          · subst e; exact he
          · exact HN.out j hj (by omega)
        have hfound : Bk.ahead s l[k] = true → idxI s l = (k : Int) := by
          intro he
          have := idxN_at s l k hlt he (fun j hj => HN.out j (by omega) hj)
          rw [idxI, this, if_pos hlt]
        have HS := Lib.hid hstep
        have HF := Lib.hid hfound
        clear hstep hfound c1' c2'
        obtain ⟨y, hy⟩ : ∃ y, l[k] = y := ⟨_, rfl⟩
        rw [hy] at c1 c2 hcl HS HF
        cases hr : Bk.ahead s y with
        | true =>
          rw [hr] at hcl
          have HF2 := Lib.hid (HF.out hr)
          clear hr hy
          go_wp2_with fail
          refine (hcl _ (below_cell HB.out H0.out) (below_cell HB.out H1.out)).mono ?_
          rintro e w1 ⟨rfl, hb1⟩
          have hb2 := grow_trans HB.out hb1
          go_wp2
          go_ret
          exact ⟨by rw [HF2.out]; rfl, hb2⟩
        | false =>
          rw [hr] at hcl
          have HS2 := Lib.hid (HS.out hr)
          clear hr hy
          go_wp2_with fail
          refine (hcl _ (below_cell HB.out H0.out) (below_cell HB.out H1.out)).mono ?_
          rintro e w1 ⟨rfl, hb1⟩
          have hb2 := grow_trans HB.out hb1
          go_wp2
          go_roundw
          case rel => exact ⟨k + 1, by go_num, hlt, HS2.out, hb2⟩
          case measure => simp [intOf]; omega
      · obtain rfl : k = l.length := by omega
        have hf : idxI s l = -1 := by
          rw [idxI, idxN_none s l (fun j hj => HN.out j hj hj), if_neg (by omega)]
        have HF := Lib.hid hf
        clear hf
        go_wp2
        go_ret
        exact ⟨by rw [HF.out]; rfl, HB.out⟩
end Go.Proofs.Ytpodccgaigkalaa
