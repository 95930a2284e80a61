/- The document's Same of vertices. -/
import Derived.Test.YtmhohnffaffdfaaVtxRTake
namespace Go.Proofs.Ytmhohnffaffdfaa
open Go.RowKit
set_option maxRecDepth 100000
attribute [local go_sem] eq_el guard_el

theorem rbsame_eq {a b : Bt.Bat} {va vb : Value} {r : Bool} (h : (a == b) = r) (w : World) (ha : TxAt w va a.2.2) (hb : TxAt w vb b.2.2) (la : a.2.2.length ≤ 140737488351232) :
    Calls Try.prog 43 #[batV a.1 a.2.1 va, batV b.1 b.2.1 vb] w fun e w' => e = .returned (.bool r) ∧ Below w.heap.size w w' := by subst h; exact rbsame a.1 a.2.1 b.1 b.2.1 va vb a.2.2 b.2.2 w ha hb la

set_option maxHeartbeats 4000000 in
theorem rsameAll (va vb : Value) (a b : List Bt.Bat) (w : World) (ha : BtsAt w va a) (hb : BtsAt w vb b) (la : a.length ≤ 140737488351232) (hs : Vt.Small a) :
    Calls Try.prog 21 #[va, vb] w fun e w' => e = .returned (.bool (a == b)) ∧ Below w.heap.size w w' := by
  by_cases hl : a.length = b.length
  · rcases ha.cells with ⟨rfl, aa, ca, rfl⟩ | ⟨h0, ba, oa, ca, rfl, hca⟩
    · obtain rfl : b = [] := List.length_eq_zero_iff.1 (by rw [← hl]; rfl)
      obtain ⟨ab, cb, rfl⟩ := hb.len
      clear ha hb
      go_enter Try.func21, Try.ntmps21
      go_wp2_with fail
      refine wp_loop_rounds 1 ?_
      rw [rounds_succ]
      go_wp2
      go_ret
      exact ⟨rfl, Below.refl _ _⟩
    rcases hb.cells with ⟨rfl, ab, cb, rfl⟩ | ⟨h1, bb, ob, cb, rfl, hcb⟩
    · rw [hl] at h0; simp at h0
    have HCA := Lib.hid hca
    have HCB := Lib.hid hcb
    have HS := Lib.hid hs
    have HLen := Lib.hid hl
    obtain ⟨N, hN⟩ : ∃ N, a.length = N := ⟨_, rfl⟩
    have hNb : b.length = N := by omega
    rw [hN, hNb]
    have HNa := Lib.hid hN
    have HNb := Lib.hid hNb
    have hN47 : N ≤ 140737488351232 := by omega
    clear ha hb hca hcb hs hl h0 h1 hN hNb la
    go_enter Try.func21, Try.ntmps21
    go_wp2_with fail
    go_loopw [5] (fun i wr => ∃ k : Nat, i = .int .i64 k ∧ k ≤ N ∧ a.take k = b.take k ∧ Below w.heap.size w wr) (fun i _ => N - (intOf i).toNat)
    case atStart => exact ⟨0, rfl, by omega, by simp, Below.refl _ _⟩
    case round =>
      obtain ⟨k, rfl, hk, ht, hbel⟩ := hrel
      have HT := Lib.hid ht
      have HBL := Lib.hid hbel
      clear ht hbel
      by_cases hlt : k < N
      · have hka : k < a.length := by rw [HNa.out]; exact hlt
        have hkb : k < b.length := by rw [HNb.out]; exact hlt
        obtain ⟨ua, p0, p1, p2, hua⟩ := HCA.out k hka
        obtain ⟨ub, q0, q1, q2, hub⟩ := HCB.out k hkb
        have hsm := HS.out _ (List.getElem_mem hka)
        obtain ⟨z, hz⟩ : ∃ z, (a[k] == b[k]) = z := ⟨_, rfl⟩
        have hyes : z = true → a.take (k + 1) = b.take (k + 1) := fun h => by
          rw [h, beq_iff_eq] at hz
          rw [List.take_succ_eq_append_getElem hka, List.take_succ_eq_append_getElem hkb, HT.out, hz]
        have hno : z = false → (a == b) = false := fun h => by
          rw [h, beq_eq_false_iff_ne] at hz
          rw [beq_eq_false_iff_ne]
          intro e
          subst e
          exact hz rfl
        have HYES := Lib.hid hyes
        have HNO := Lib.hid hno
        have HZ := Lib.hid hz
        have c0 := below_cell HBL.out p0
        have c1 := below_cell HBL.out p1
        have c2 := below_cell HBL.out p2
        have e0 := below_cell HBL.out q0
        have e1 := below_cell HBL.out q1
        have e2 := below_cell HBL.out q2
        have HUA := Lib.hid hua
        have HUB := Lib.hid hub
        obtain ⟨xa, ya, rfl⟩ := hua.len
        obtain ⟨xb, yb, rfl⟩ := hub.len
        clear hyes hno hz p0 p1 p2 q0 q1 q2 hua hub
        generalize a[k] = A at *
        generalize b[k] = B at *
        obtain ⟨o, q, m⟩ := A
        obtain ⟨o', q', m'⟩ := B
        simp only [iv] at c0 c1 c2 e0 e1 e2 HUA HUB hsm
        have hS : (fun w' : World => w'.cell? ⟨ba, oa + k * 3, none⟩ = some (.int .i64 o) ∧ w'.cell? ⟨ba, oa + k * 3 + 1, none⟩ = some (.int .i64 q) ∧ w'.cell? ⟨ba, oa + k * 3 + 2, none⟩ = some (.slice xa m.length ya) ∧ w'.cell? ⟨bb, ob + k * 3, none⟩ = some (.int .i64 o') ∧ w'.cell? ⟨bb, ob + k * 3 + 1, none⟩ = some (.int .i64 q') ∧ w'.cell? ⟨bb, ob + k * 3 + 2, none⟩ = some (.slice xb m'.length yb) ∧ Below w.heap.size w w') wr := ⟨c0, c1, c2, e0, e1, e2, HBL.out⟩
        have hk := Lib.hid (show ∀ a b : World, (fun w' : World => w'.cell? ⟨ba, oa + k * 3, none⟩ = some (.int .i64 o) ∧ w'.cell? ⟨ba, oa + k * 3 + 1, none⟩ = some (.int .i64 q) ∧ w'.cell? ⟨ba, oa + k * 3 + 2, none⟩ = some (.slice xa m.length ya) ∧ w'.cell? ⟨bb, ob + k * 3, none⟩ = some (.int .i64 o') ∧ w'.cell? ⟨bb, ob + k * 3 + 1, none⟩ = some (.int .i64 q') ∧ w'.cell? ⟨bb, ob + k * 3 + 2, none⟩ = some (.slice xb m'.length yb) ∧ Below w.heap.size w w') a → Below a.heap.size a b → (fun w' : World => w'.cell? ⟨ba, oa + k * 3, none⟩ = some (.int .i64 o) ∧ w'.cell? ⟨ba, oa + k * 3 + 1, none⟩ = some (.int .i64 q) ∧ w'.cell? ⟨ba, oa + k * 3 + 2, none⟩ = some (.slice xa m.length ya) ∧ w'.cell? ⟨bb, ob + k * 3, none⟩ = some (.int .i64 o') ∧ w'.cell? ⟨bb, ob + k * 3 + 1, none⟩ = some (.int .i64 q') ∧ w'.cell? ⟨bb, ob + k * 3 + 2, none⟩ = some (.slice xb m'.length yb) ∧ Below w.heap.size w w') b from fun a b ⟨k0, k1, k2, k3, k4, k5, kb⟩ h => ⟨below_cell h k0, below_cell h k1, below_cell h k2, below_cell h k3, below_cell h k4, below_cell h k5, grow_trans kb h⟩)
        have hf := Lib.hid (fun (W : World) (h : (fun w' : World => w'.cell? ⟨ba, oa + k * 3, none⟩ = some (.int .i64 o) ∧ w'.cell? ⟨ba, oa + k * 3 + 1, none⟩ = some (.int .i64 q) ∧ w'.cell? ⟨ba, oa + k * 3 + 2, none⟩ = some (.slice xa m.length ya) ∧ w'.cell? ⟨bb, ob + k * 3, none⟩ = some (.int .i64 o') ∧ w'.cell? ⟨bb, ob + k * 3 + 1, none⟩ = some (.int .i64 q') ∧ w'.cell? ⟨bb, ob + k * 3 + 2, none⟩ = some (.slice xb m'.length yb) ∧ Below w.heap.size w w') W) => keepB (fun w' : World => w'.cell? ⟨ba, oa + k * 3, none⟩ = some (.int .i64 o) ∧ w'.cell? ⟨ba, oa + k * 3 + 1, none⟩ = some (.int .i64 q) ∧ w'.cell? ⟨ba, oa + k * 3 + 2, none⟩ = some (.slice xa m.length ya) ∧ w'.cell? ⟨bb, ob + k * 3, none⟩ = some (.int .i64 o') ∧ w'.cell? ⟨bb, ob + k * 3 + 1, none⟩ = some (.int .i64 q') ∧ w'.cell? ⟨bb, ob + k * 3 + 2, none⟩ = some (.slice xb m'.length yb) ∧ Below w.heap.size w w') hk.out (rbsame_eq (a := (o, q, m)) (b := (o', q', m')) HZ.out W (HUA.out.below h.2.2.2.2.2.2) (HUB.out.below h.2.2.2.2.2.2) hsm) h)
        clear c0 c1 c2 e0 e1 e2
        go_wp2_with fail
        go_region_held3 (fun w' : World => w'.cell? ⟨ba, oa + k * 3, none⟩ = some (.int .i64 o) ∧ w'.cell? ⟨ba, oa + k * 3 + 1, none⟩ = some (.int .i64 q) ∧ w'.cell? ⟨ba, oa + k * 3 + 2, none⟩ = some (.slice xa m.length ya) ∧ w'.cell? ⟨bb, ob + k * 3, none⟩ = some (.int .i64 o') ∧ w'.cell? ⟨bb, ob + k * 3 + 1, none⟩ = some (.int .i64 q') ∧ w'.cell? ⟨bb, ob + k * 3 + 2, none⟩ = some (.slice xb m'.length yb) ∧ Below w.heap.size w w')
          (first | assumption | exact hk.out _ _ hS (Below.drew (Below.refl _ _)) | exact hk.out _ _ (by assumption) ((Below.refl _ _).alloc (Nat.le_refl _) _))
          ((go_at_call 43; refine (hf.out _ (by assumption)).mono ?_; rintro e w1 ⟨rfl, kS⟩))
        all_goals
          have G2 := Lib.hid (show Below w.heap.size w _ from (show (fun w' : World => w'.cell? ⟨ba, oa + k * 3, none⟩ = some (.int .i64 o) ∧ w'.cell? ⟨ba, oa + k * 3 + 1, none⟩ = some (.int .i64 q) ∧ w'.cell? ⟨ba, oa + k * 3 + 2, none⟩ = some (.slice xa m.length ya) ∧ w'.cell? ⟨bb, ob + k * 3, none⟩ = some (.int .i64 o') ∧ w'.cell? ⟨bb, ob + k * 3 + 1, none⟩ = some (.int .i64 q') ∧ w'.cell? ⟨bb, ob + k * 3 + 2, none⟩ = some (.slice xb m'.length yb) ∧ Below w.heap.size w w') _ by assumption).2.2.2.2.2.2)
          cases z with
          | true =>
            have HY2 := Lib.hid (HYES.out rfl)
            go_wp2
            go_roundw
            case rel => exact ⟨k + 1, by go_num, hlt, HY2.out, G2.out⟩
            case measure => simp [intOf]; omega
          | false =>
            have HN2 := Lib.hid (HNO.out rfl)
            go_wp2
            go_ret
            exact ⟨by rw [HN2.out]; rfl, G2.out⟩
      · obtain rfl : k = N := by omega
        have hf : (a == b) = true := by
          rw [beq_iff_eq]
          have e := HT.out
          rwa [List.take_of_length_le (by rw [HNa.out]; omega), List.take_of_length_le (by rw [HNb.out]; omega)] at e
        have HF := Lib.hid hf
        clear hf
        go_wp2
        go_ret
        exact ⟨by rw [HF.out]; rfl, HBL.out⟩
  · obtain ⟨aa, ca, rfl⟩ := ha.len
    obtain ⟨ab, cb, rfl⟩ := hb.len
    have hne : ((a.length : Int) != (b.length : Int)) = true := by rw [bne_iff_ne]; omega
    have hf : (a == b) = false := by rw [beq_eq_false_iff_ne]; intro e; exact hl (by rw [e])
    have HF := Lib.hid hf
    clear ha hb hl hf
    go_enter Try.func21, Try.ntmps21
    go_wp2
    go_ret
    exact ⟨by rw [HF.out]; rfl, Below.refl _ _⟩
end Go.Proofs.Ytmhohnffaffdfaa
