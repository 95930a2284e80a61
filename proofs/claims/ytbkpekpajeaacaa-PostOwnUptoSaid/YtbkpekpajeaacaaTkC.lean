/- DigSame, BatSameR, VtxRSame, VtxRSame2, in one. -/
import Derived.Test.YtbkpekpajeaacaaGDig
import Derived.Test.YtbkpekpajeaacaaTkA
import Derived.Test.YtbkpekpajeaacaaGBat
import Derived.Test.YtbkpekpajeaacaaTkB
set_option maxRecDepth 100000
/- The contract of the document's Same. -/
namespace Go.Proofs.Ytbkpekpajeaacaa
open Go.RowKit

set_option maxHeartbeats 1000000 in
theorem same_apart (va vb : Value) (a b : List (List UInt8)) (w : World) (ha : TxAt w va a) (hb : TxAt w vb b) (hl : a.length ≠ b.length) :
    Calls Try.prog 59 #[va, vb] w fun e w' => e = .returned (.bool (a == b)) ∧ ∃ n, w' = w.drewN n := by
  obtain ⟨aa, ca, rfl⟩ := ha.len
  obtain ⟨ab, cb, rfl⟩ := hb.len
  have hne : ((a.length : Int) != (b.length : Int)) = true := by rw [bne_iff_ne]; omega
  have hf : (a == b) = false := by rw [beq_eq_false_iff_ne]; intro e; exact hl (by rw [e])
  have HF := Lib.hid hf
  clear ha hb hl hf
  go_enter Try.func59, Try.ntmps59
  go_wp2
  go_ret
  exact ⟨by rw [HF.out]; rfl, 0, rfl⟩

set_option maxHeartbeats 1000000 in
theorem same_empty (a b : Option Addr) (ca cb : Nat) (w : World) :
    Calls Try.prog 59 #[.slice a 0 ca, .slice b 0 cb] w fun e w' => e = .returned (.bool true) ∧ ∃ n, w' = w.drewN n := by
  go_enter Try.func59, Try.ntmps59
  go_wp2_with fail
  refine wp_loop_rounds 1 ?_
  rw [rounds_succ]
  go_wp2
  go_ret
  exact ⟨rfl, 0, rfl⟩

set_option maxHeartbeats 1000000 in
theorem same_some (ba oa ca bb ob cb n : Nat) (a b : List (List UInt8)) (hla : a.length = n) (hlb : b.length = n) (w : World)
    (ha : ∀ i (h : i < a.length), w.cell? ⟨ba, oa + i, none⟩ = some (tx a[i])) (hb : ∀ i (h : i < b.length), w.cell? ⟨bb, ob + i, none⟩ = some (tx b[i])) (ln : n ≤ 140737488351232) :
    Calls Try.prog 59 #[.slice (some ⟨ba, oa, none⟩) n ca, .slice (some ⟨bb, ob, none⟩) n cb] w fun e w' => e = .returned (.bool (a == b)) ∧ ∃ n, w' = w.drewN n := by
  have HA := Lib.hid ha
  have HB := Lib.hid hb
  have LA := Lib.hid hla
  have LB := Lib.hid hlb
  clear ha hb hla hlb
  go_enter Try.func59, Try.ntmps59
  go_wp2_with fail
  go_loopw [5] (fun i wr => ∃ k : Nat, i = .int .i64 k ∧ k ≤ n ∧ a.take k = b.take k ∧ ∃ q, wr = w.drewN q) (fun i _ => n - (intOf i).toNat)
  case atStart => exact ⟨0, rfl, by omega, by simp, 0, rfl⟩
  case round =>
    obtain ⟨k, rfl, hk, ht, q, rfl⟩ := hrel
    have HT := Lib.hid ht
    clear ht
    by_cases hlt : k < n
    · have hka : k < a.length := by rw [LA.out]; exact hlt
      have hkb : k < b.length := by rw [LB.out]; exact hlt
      have ca := HA.out k hka
      have cb := HB.out k hkb
      by_cases he : a[k] = b[k]
      · have HE := Lib.hid he
        have hx : (a[k] == b[k]) = true := by rw [he]; simp
        clear he
        go_wp2
        go_quiet (fail)
        go_wp2
        go_roundw
        case rel => exact ⟨k + 1, by go_num, hlt, by rw [List.take_succ_eq_append_getElem hka, List.take_succ_eq_append_getElem hkb, HT.out, HE.out], _, rfl⟩
        case measure => simp [intOf]; omega
      · have hx : (a[k] == b[k]) = false := by rw [beq_eq_false_iff_ne]; exact he
        have hf : (a == b) = false := by
          rw [beq_eq_false_iff_ne]
          intro e
          subst e
          exact he rfl
        have HF := Lib.hid hf
        clear he hf
        go_wp2
        go_quiet (fail)
        go_wp2
        go_ret
        exact ⟨by rw [HF.out]; rfl, drewN_ex ⟨_, rfl⟩ _⟩
    · obtain rfl : k = n := by omega
      have hf : (a == b) = true := by
        rw [beq_iff_eq]
        have e := HT.out
        rwa [List.take_of_length_le (by rw [LA.out]; omega), List.take_of_length_le (by rw [LB.out]; omega)] at e
      have HF := Lib.hid hf
      clear hf
      go_wp2
      go_ret
      exact ⟨by rw [HF.out]; rfl, _, rfl⟩

theorem same_any (va vb : Value) (a b : List (List UInt8)) (w : World) (ha : TxAt w va a) (hb : TxAt w vb b) (la : a.length ≤ 140737488351232) :
    Calls Try.prog 59 #[va, vb] w fun e w' => e = .returned (.bool (a == b)) ∧ ∃ n, w' = w.drewN n := by
  by_cases hl : a.length = b.length
  · by_cases h0 : a.length = 0
    · obtain ⟨aa, ca, rfl⟩ := ha.len
      obtain ⟨ab, cb, rfl⟩ := hb.len
      obtain rfl := List.length_eq_zero_iff.1 h0
      obtain rfl := List.length_eq_zero_iff.1 (show b.length = 0 by rw [← hl]; rfl)
      exact same_empty _ _ _ _ w
    · rcases ha with ⟨_, _, _, rfl⟩ | ⟨ba, oa, ca, rfl, hca⟩
      · exact absurd rfl h0
      rcases hb with ⟨_, _, _, rfl⟩ | ⟨bb, ob, cb, rfl, hcb⟩
      · exact absurd hl h0
      rw [← hl]
      exact same_some ba oa ca bb ob cb a.length a b rfl hl.symm w hca hcb la
  · exact same_apart va vb a b w ha hb hl
end Go.Proofs.Ytbkpekpajeaacaa
/- The document's Same of batches. -/
namespace Go.Proofs.Ytbkpekpajeaacaa
open Go.RowKit

theorem bt_beq (a b : Bt.Bat) : (a == b) = ((a.1 == b.1) && ((a.2.1 == b.2.1) && (a.2.2 == b.2.2))) := rfl

set_option maxHeartbeats 2000000 in
theorem rbsame (o q o' q' : Int) (va vb : Value) (a b : List (List UInt8)) (w : World) (ha : TxAt w va a) (hb : TxAt w vb b) (la : a.length ≤ 140737488351232) :
    Calls Try.prog 88 #[batV o q va, batV o' q' vb] w fun e w' => e = .returned (.bool (((o, q, a) : Bt.Bat) == (o', q', b))) ∧ Below w.heap.size w w' := by
  rw [bt_beq]
  have hg : Below w.heap.size w ((w.alloc (.cells #[.int .i64 o, .int .i64 q, va] 105)).alloc (.cells #[.int .i64 o', .int .i64 q', vb] 105)) := ((Below.refl _ _).alloc (Nat.le_refl _) _).alloc (by simp) _
  have hsame := same_any va vb a b _ (ha.below hg) (hb.below hg) la
  obtain ⟨aa, ca, rfl⟩ := ha.len
  obtain ⟨ab, cb, rfl⟩ := hb.len
  generalize (a == b) = r at *
  have HS := Lib.hid hsame
  have HG := Lib.hid hg
  clear hsame hg ha hb
  cases r with
  | false =>
    simp only [Bool.and_false]
    go_enter Try.func88, Try.ntmps88
    go_wp2_with fail
    refine HS.out.mono ?_
    rintro e w1 ⟨rfl, k, rfl⟩
    go_wp2
    go_ret
    exact ⟨rfl, below_drewN HG.out _⟩
  | true =>
    simp only [Bool.and_true]
    by_cases h1 : o = o'
    · subst h1
      by_cases h2 : q = q'
      · subst h2
        simp only [beq_self_eq_true, Bool.and_self]
        go_enter Try.func88, Try.ntmps88
        go_wp2_with fail
        refine HS.out.mono ?_
        rintro e w1 ⟨rfl, k, rfl⟩
        go_wp2
        go_ret
        exact ⟨rfl, below_drewN HG.out _⟩
      · have t2 : (q == q') = false := beq_eq_false_iff_ne.2 h2
        simp only [t2, Bool.and_false]
        clear h2
        go_enter Try.func88, Try.ntmps88
        go_wp2_with fail
        refine HS.out.mono ?_
        rintro e w1 ⟨rfl, k, rfl⟩
        go_wp2
        go_ret
        exact ⟨rfl, below_drewN HG.out _⟩
    · have t1 : (o == o') = false := beq_eq_false_iff_ne.2 h1
      simp only [t1, Bool.false_and]
      clear h1
      go_enter Try.func88, Try.ntmps88
      go_wp2_with fail
      refine HS.out.mono ?_
      rintro e w1 ⟨rfl, k, rfl⟩
      go_wp2
      go_ret
      exact ⟨rfl, below_drewN HG.out _⟩
end Go.Proofs.Ytbkpekpajeaacaa
/- The document's Same of vertices. -/
namespace Go.Proofs.Ytbkpekpajeaacaa
open Go.RowKit
set_option maxRecDepth 100000
attribute [local go_sem] eq_el guard_el

theorem rbsame_eq {a b : Bt.Bat} {va vb : Value} {r : Bool} (h : (a == b) = r) (w : World) (ha : TxAt w va a.2.2) (hb : TxAt w vb b.2.2) (la : a.2.2.length ≤ 140737488351232) :
    Calls Try.prog 88 #[batV a.1 a.2.1 va, batV b.1 b.2.1 vb] w fun e w' => e = .returned (.bool r) ∧ Below w.heap.size w w' := by subst h; exact rbsame a.1 a.2.1 b.1 b.2.1 va vb a.2.2 b.2.2 w ha hb la

set_option maxHeartbeats 4000000 in
theorem rsameAll (va vb : Value) (a b : List Bt.Bat) (w : World) (ha : BtsAt w va a) (hb : BtsAt w vb b) (la : a.length ≤ 140737488351232) (hs : Vt.Small a) :
    Calls Try.prog 60 #[va, vb] w fun e w' => e = .returned (.bool (a == b)) ∧ Below w.heap.size w w' := by
  by_cases hl : a.length = b.length
  · rcases ha.cells with ⟨rfl, aa, ca, rfl⟩ | ⟨h0, ba, oa, ca, rfl, hca⟩
    · obtain rfl : b = [] := List.length_eq_zero_iff.1 (by rw [← hl]; rfl)
      obtain ⟨ab, cb, rfl⟩ := hb.len
      clear ha hb
      go_enter Try.func60, Try.ntmps60
      go_wp2_with fail
      refine wp_loop_rounds 1 ?_
      rw [rounds_succ]
      go_wp2
      go_ret
      exact ⟨rfl, Below.refl _ _⟩
    rcases hb.cells with ⟨rfl, ab, cb, rfl⟩ | ⟨h1, bb, ob, cb, rfl, hcb⟩
    · rw [hl] at h0; simp at h0
    have HCA := Lib.hid hca
    have HCB := Lib.hid hcb
    have HS := Lib.hid hs
    have HLen := Lib.hid hl
    obtain ⟨N, hN⟩ : ∃ N, a.length = N := ⟨_, rfl⟩
    have hNb : b.length = N := by omega
    rw [hN, hNb]
    have HNa := Lib.hid hN
    have HNb := Lib.hid hNb
    have hN47 : N ≤ 140737488351232 := by omega
    clear ha hb hca hcb hs hl h0 h1 hN hNb la
    go_enter Try.func60, Try.ntmps60
    go_wp2_with fail
    go_loopw [5] (fun i wr => ∃ k : Nat, i = .int .i64 k ∧ k ≤ N ∧ a.take k = b.take k ∧ Below w.heap.size w wr) (fun i _ => N - (intOf i).toNat)
    case atStart => exact ⟨0, rfl, by omega, by simp, Below.refl _ _⟩
    case round =>
      obtain ⟨k, rfl, hk, ht, hbel⟩ := hrel
      have HT := Lib.hid ht
      have HBL := Lib.hid hbel
      clear ht hbel
      by_cases hlt : k < N
      · have hka : k < a.length := by rw [HNa.out]; exact hlt
        have hkb : k < b.length := by rw [HNb.out]; exact hlt
        obtain ⟨ua, p0, p1, p2, hua⟩ := HCA.out k hka
        obtain ⟨ub, q0, q1, q2, hub⟩ := HCB.out k hkb
        have hsm := HS.out _ (List.getElem_mem hka)
        obtain ⟨z, hz⟩ : ∃ z, (a[k] == b[k]) = z := ⟨_, rfl⟩
        have hyes : z = true → a.take (k + 1) = b.take (k + 1) := fun h => by
          rw [h, beq_iff_eq] at hz
          rw [List.take_succ_eq_append_getElem hka, List.take_succ_eq_append_getElem hkb, HT.out, hz]
        have hno : z = false → (a == b) = false := fun h => by
          rw [h, beq_eq_false_iff_ne] at hz
          rw [beq_eq_false_iff_ne]
          intro e
          subst e
          exact hz rfl
        have HYES := Lib.hid hyes
        have HNO := Lib.hid hno
        have HZ := Lib.hid hz
        have c0 := below_cell HBL.out p0
        have c1 := below_cell HBL.out p1
        have c2 := below_cell HBL.out p2
        have e0 := below_cell HBL.out q0
        have e1 := below_cell HBL.out q1
        have e2 := below_cell HBL.out q2
        have HUA := Lib.hid hua
        have HUB := Lib.hid hub
        obtain ⟨xa, ya, rfl⟩ := hua.len
        obtain ⟨xb, yb, rfl⟩ := hub.len
        clear hyes hno hz p0 p1 p2 q0 q1 q2 hua hub
        generalize a[k] = A at *
        generalize b[k] = B at *
        obtain ⟨o, q, m⟩ := A
        obtain ⟨o', q', m'⟩ := B
        simp only [iv] at c0 c1 c2 e0 e1 e2 HUA HUB hsm
        have hS : (fun w' : World => w'.cell? ⟨ba, oa + k * 3, none⟩ = some (.int .i64 o) ∧ w'.cell? ⟨ba, oa + k * 3 + 1, none⟩ = some (.int .i64 q) ∧ w'.cell? ⟨ba, oa + k * 3 + 2, none⟩ = some (.slice xa m.length ya) ∧ w'.cell? ⟨bb, ob + k * 3, none⟩ = some (.int .i64 o') ∧ w'.cell? ⟨bb, ob + k * 3 + 1, none⟩ = some (.int .i64 q') ∧ w'.cell? ⟨bb, ob + k * 3 + 2, none⟩ = some (.slice xb m'.length yb) ∧ Below w.heap.size w w') wr := ⟨c0, c1, c2, e0, e1, e2, HBL.out⟩
        have hk := Lib.hid (show ∀ a b : World, (fun w' : World => w'.cell? ⟨ba, oa + k * 3, none⟩ = some (.int .i64 o) ∧ w'.cell? ⟨ba, oa + k * 3 + 1, none⟩ = some (.int .i64 q) ∧ w'.cell? ⟨ba, oa + k * 3 + 2, none⟩ = some (.slice xa m.length ya) ∧ w'.cell? ⟨bb, ob + k * 3, none⟩ = some (.int .i64 o') ∧ w'.cell? ⟨bb, ob + k * 3 + 1, none⟩ = some (.int .i64 q') ∧ w'.cell? ⟨bb, ob + k * 3 + 2, none⟩ = some (.slice xb m'.length yb) ∧ Below w.heap.size w w') a → Below a.heap.size a b → (fun w' : World => w'.cell? ⟨ba, oa + k * 3, none⟩ = some (.int .i64 o) ∧ w'.cell? ⟨ba, oa + k * 3 + 1, none⟩ = some (.int .i64 q) ∧ w'.cell? ⟨ba, oa + k * 3 + 2, none⟩ = some (.slice xa m.length ya) ∧ w'.cell? ⟨bb, ob + k * 3, none⟩ = some (.int .i64 o') ∧ w'.cell? ⟨bb, ob + k * 3 + 1, none⟩ = some (.int .i64 q') ∧ w'.cell? ⟨bb, ob + k * 3 + 2, none⟩ = some (.slice xb m'.length yb) ∧ Below w.heap.size w w') b from fun a b ⟨k0, k1, k2, k3, k4, k5, kb⟩ h => ⟨below_cell h k0, below_cell h k1, below_cell h k2, below_cell h k3, below_cell h k4, below_cell h k5, grow_trans kb h⟩)
        have hf := Lib.hid (fun (W : World) (h : (fun w' : World => w'.cell? ⟨ba, oa + k * 3, none⟩ = some (.int .i64 o) ∧ w'.cell? ⟨ba, oa + k * 3 + 1, none⟩ = some (.int .i64 q) ∧ w'.cell? ⟨ba, oa + k * 3 + 2, none⟩ = some (.slice xa m.length ya) ∧ w'.cell? ⟨bb, ob + k * 3, none⟩ = some (.int .i64 o') ∧ w'.cell? ⟨bb, ob + k * 3 + 1, none⟩ = some (.int .i64 q') ∧ w'.cell? ⟨bb, ob + k * 3 + 2, none⟩ = some (.slice xb m'.length yb) ∧ Below w.heap.size w w') W) => keepB (fun w' : World => w'.cell? ⟨ba, oa + k * 3, none⟩ = some (.int .i64 o) ∧ w'.cell? ⟨ba, oa + k * 3 + 1, none⟩ = some (.int .i64 q) ∧ w'.cell? ⟨ba, oa + k * 3 + 2, none⟩ = some (.slice xa m.length ya) ∧ w'.cell? ⟨bb, ob + k * 3, none⟩ = some (.int .i64 o') ∧ w'.cell? ⟨bb, ob + k * 3 + 1, none⟩ = some (.int .i64 q') ∧ w'.cell? ⟨bb, ob + k * 3 + 2, none⟩ = some (.slice xb m'.length yb) ∧ Below w.heap.size w w') hk.out (rbsame_eq (a := (o, q, m)) (b := (o', q', m')) HZ.out W (HUA.out.below h.2.2.2.2.2.2) (HUB.out.below h.2.2.2.2.2.2) hsm) h)
        clear c0 c1 c2 e0 e1 e2
        go_wp2_with fail
        go_region_held3 (fun w' : World => w'.cell? ⟨ba, oa + k * 3, none⟩ = some (.int .i64 o) ∧ w'.cell? ⟨ba, oa + k * 3 + 1, none⟩ = some (.int .i64 q) ∧ w'.cell? ⟨ba, oa + k * 3 + 2, none⟩ = some (.slice xa m.length ya) ∧ w'.cell? ⟨bb, ob + k * 3, none⟩ = some (.int .i64 o') ∧ w'.cell? ⟨bb, ob + k * 3 + 1, none⟩ = some (.int .i64 q') ∧ w'.cell? ⟨bb, ob + k * 3 + 2, none⟩ = some (.slice xb m'.length yb) ∧ Below w.heap.size w w')
          (first | assumption | exact hk.out _ _ hS (Below.drew (Below.refl _ _)) | exact hk.out _ _ (by assumption) ((Below.refl _ _).alloc (Nat.le_refl _) _))
          ((go_at_call 88; refine (hf.out _ (by assumption)).mono ?_; rintro e w1 ⟨rfl, kS⟩))
        all_goals
          have G2 := Lib.hid (show Below w.heap.size w _ from (show (fun w' : World => w'.cell? ⟨ba, oa + k * 3, none⟩ = some (.int .i64 o) ∧ w'.cell? ⟨ba, oa + k * 3 + 1, none⟩ = some (.int .i64 q) ∧ w'.cell? ⟨ba, oa + k * 3 + 2, none⟩ = some (.slice xa m.length ya) ∧ w'.cell? ⟨bb, ob + k * 3, none⟩ = some (.int .i64 o') ∧ w'.cell? ⟨bb, ob + k * 3 + 1, none⟩ = some (.int .i64 q') ∧ w'.cell? ⟨bb, ob + k * 3 + 2, none⟩ = some (.slice xb m'.length yb) ∧ Below w.heap.size w w') _ by assumption).2.2.2.2.2.2)
          cases z with
          | true =>
            have HY2 := Lib.hid (HYES.out rfl)
            go_wp2
            go_roundw
            case rel => exact ⟨k + 1, by go_num, hlt, HY2.out, G2.out⟩
            case measure => simp [intOf]; omega
          | false =>
            have HN2 := Lib.hid (HNO.out rfl)
            go_wp2
            go_ret
            exact ⟨by rw [HN2.out]; rfl, G2.out⟩
      · obtain rfl : k = N := by omega
        have hf : (a == b) = true := by
          rw [beq_iff_eq]
          have e := HT.out
          rwa [List.take_of_length_le (by rw [HNa.out]; omega), List.take_of_length_le (by rw [HNb.out]; omega)] at e
        have HF := Lib.hid hf
        clear hf
        go_wp2
        go_ret
        exact ⟨by rw [HF.out]; rfl, HBL.out⟩
  · obtain ⟨aa, ca, rfl⟩ := ha.len
    obtain ⟨ab, cb, rfl⟩ := hb.len
    have hne : ((a.length : Int) != (b.length : Int)) = true := by rw [bne_iff_ne]; omega
    have hf : (a == b) = false := by rw [beq_eq_false_iff_ne]; intro e; exact hl (by rw [e])
    have HF := Lib.hid hf
    clear ha hb hl hf
    go_enter Try.func60, Try.ntmps60
    go_wp2
    go_ret
    exact ⟨by rw [HF.out]; rfl, Below.refl _ _⟩
end Go.Proofs.Ytbkpekpajeaacaa
/- The document's Same of vertices; the contracts as equations. -/
namespace Go.Proofs.Ytbkpekpajeaacaa
open Go.RowKit
set_option maxRecDepth 100000
attribute [local go_sem] eq_el guard_el

theorem rsameAll_eq {a b : List Bt.Bat} {z : Bool} (h : (a == b) = z) (va vb : Value) (w : World) (ha : BtsAt w va a) (hb : BtsAt w vb b) (la : a.length ≤ 140737488351232) (hs : Vt.Small a) :
    Calls Try.prog 60 #[va, vb] w fun e w' => e = .returned (.bool z) ∧ Below w.heap.size w w' := by subst h; exact rsameAll va vb a b w ha hb la hs
theorem rsameT_eq {a b : List (List UInt8)} {z : Bool} (h : (a == b) = z) (va vb : Value) (w : World) (ha : TxAt w va a) (hb : TxAt w vb b) (la : a.length ≤ 140737488351232) :
    Calls Try.prog 59 #[va, vb] w fun e w' => e = .returned (.bool z) ∧ Below w.heap.size w w' := by
  subst h; exact (same_any va vb a b w ha hb la).mono fun e w' ⟨he, n, hw⟩ => ⟨he, by rw [hw]; exact grow_draws _ _⟩
theorem vt_beq (u v : Vt.Vtx) : (u == v) = ((u.1 == v.1) && ((u.2.1 == v.2.1) && ((u.2.2.1 == v.2.2.1) && ((u.2.2.2.1 == v.2.2.2.1) && ((u.2.2.2.2.1 == v.2.2.2.2.1) && (u.2.2.2.2.2 == v.2.2.2.2.2)))))) := rfl

set_option maxHeartbeats 4000000 in
theorem rvsame (u v : Vt.Vtx) (bu pu bv pv : Value) (w : World) (hbu : BtsAt w bu u.2.2.1) (hpu : TxAt w pu u.2.2.2.1) (hbv : BtsAt w bv v.2.2.1) (hpv : TxAt w pv v.2.2.2.1) (lb : u.2.2.1.length ≤ 140737488351232) (hs : Vt.Small u.2.2.1) (lp : u.2.2.2.1.length ≤ 140737488351232) :
    Calls Try.prog 31 #[vtxV u.1 u.2.1 bu pu u.2.2.2.2.1 u.2.2.2.2.2, vtxV v.1 v.2.1 bv pv v.2.2.2.2.1 v.2.2.2.2.2] w fun e w' => e = .returned (.bool (u == v)) ∧ Below w.heap.size w w' := by
  rw [vt_beq]
  obtain ⟨a, r, bs, ps, x, y⟩ := u
  obtain ⟨a', r', bs', ps', x', y'⟩ := v
  simp only [] at hbu hpu hbv hpv lb hs lp ⊢
  have A0 := Lib.hid ((VBox.new w a r bu pu x y).alloc (.cells #[.int .i64 a', .int .i64 r', bv, pv, .int .i64 x', .int .i64 y'] 27))
  have hb0 := VBox.new (w.alloc (.cells #[.int .i64 a, .int .i64 r, bu, pu, .int .i64 x, .int .i64 y] 27)) a' r' bv pv x' y'
  rw [World.size_alloc] at hb0
  have B0 := Lib.hid hb0
  have HG := Lib.hid (show Below w.heap.size w ((w.alloc (.cells #[.int .i64 a, .int .i64 r, bu, pu, .int .i64 x, .int .i64 y] 27)).alloc (.cells #[.int .i64 a', .int .i64 r', bv, pv, .int .i64 x', .int .i64 y'] 27)) from ((Below.refl _ _).alloc (Nat.le_refl _) _).alloc (by simp) _)
  have HBU := Lib.hid hbu
  have HPU := Lib.hid hpu
  have HBV := Lib.hid hbv
  have HPV := Lib.hid hpv
  have HS := Lib.hid hs
  obtain ⟨m1, m2, rfl⟩ := hbu.len
  obtain ⟨m3, m4, rfl⟩ := hpu.len
  obtain ⟨m5, m6, rfl⟩ := hbv.len
  obtain ⟨m7, m8, rfl⟩ := hpv.len
  obtain ⟨zp, hzp⟩ : ∃ z, (ps == ps') = z := ⟨_, rfl⟩
  obtain ⟨zb, hzb⟩ : ∃ z, (bs == bs') = z := ⟨_, rfl⟩
  rw [hzp, hzb]
  have ZP := Lib.hid hzp
  have ZB := Lib.hid hzb
  clear hb0 hbu hpu hbv hpv hs hzp hzb
  have run : ∀ z, ((a == a') && ((r == r') && (zb && (zp && ((x == x') && (y == y')))))) = z → Calls Try.prog 31 #[vtxV a r (.slice m1 bs.length m2) (.slice m3 ps.length m4) x y, vtxV a' r' (.slice m5 bs'.length m6) (.slice m7 ps'.length m8) x' y'] w fun e w' => e = .returned (.bool z) ∧ Below w.heap.size w w' := by
    intro z hz
    have HZ := Lib.hid hz
    clear hz
    go_enter Try.func31, Try.ntmps31
    go_wp2_with fail
    refine (rsameT_eq ZP.out _ _ _ (HPU.out.below HG.out) (HPV.out.below HG.out) lp).mono ?_
    rintro e w1 ⟨rfl, g1⟩
    have A1 := Lib.hid (A0.out.kept g1)
    have B1 := Lib.hid (B0.out.kept g1)
    have G1 := Lib.hid (HG.out.trans (g1.mono (by simp; omega)))
    obtain ⟨c0, c1, c2, c3, c4, c5⟩ := A1.out.cells
    obtain ⟨d0, d1, d2, d3, d4, d5⟩ := B1.out.cells
    clear g1
    go_wp2_with fail
    refine (rsameAll_eq ZB.out _ _ _ (HBU.out.below G1.out) (HBV.out.below G1.out) lb HS.out).mono ?_
    rintro e w2 ⟨rfl, g2⟩
    have A2 := Lib.hid (A1.out.kept g2)
    have B2 := Lib.hid (B1.out.kept g2)
    have G2 := Lib.hid (grow_trans G1.out g2)
    clear c0 c1 c2 c3 c4 c5 d0 d1 d2 d3 d4 d5 g2
    obtain ⟨c0, c1, c2, c3, c4, c5⟩ := A2.out.cells
    obtain ⟨d0, d1, d2, d3, d4, d5⟩ := B2.out.cells
    cases zp with
    | false =>
      have hz := HZ.out
      simp only [Bool.false_and, Bool.and_false] at hz
      subst hz
      go_wp2
      go_ret
      exact ⟨rfl, G2.out⟩
    | true =>
    cases zb with
    | false =>
      have hz := HZ.out
      simp only [Bool.false_and, Bool.and_false] at hz
      subst hz
      go_wp2
      go_ret
      exact ⟨rfl, G2.out⟩
    | true =>
    by_cases h0 : a = a'
    case neg =>
      have t0 : (a == a') = false := beq_eq_false_iff_ne.2 h0
      have hz := HZ.out
      simp only [Bool.true_and, t0, Bool.false_and] at hz
      subst hz
      clear HZ
      go_wp2
      go_ret
      exact ⟨rfl, G2.out⟩
    have t0 : (a == a') = true := beq_iff_eq.2 h0
    by_cases h1 : r = r'
    case neg =>
      have t1 : (r == r') = false := beq_eq_false_iff_ne.2 h1
      have hz := HZ.out
      simp only [Bool.true_and, t0, t1, Bool.false_and, Bool.and_false] at hz
      subst hz
      clear HZ
      go_wp2
      go_ret
      exact ⟨rfl, G2.out⟩
    have t1 : (r == r') = true := beq_iff_eq.2 h1
    by_cases h2 : x = x'
    case neg =>
      have t2 : (x == x') = false := beq_eq_false_iff_ne.2 h2
      have hz := HZ.out
      simp only [t0, t1, t2, Bool.false_and, Bool.and_false] at hz
      subst hz
      clear HZ
      go_wp2
      go_ret
      exact ⟨rfl, G2.out⟩
    have t2 : (x == x') = true := beq_iff_eq.2 h2
    by_cases h3 : y = y'
    case neg =>
      have t3 : (y == y') = false := beq_eq_false_iff_ne.2 h3
      have hz := HZ.out
      simp only [t0, t1, t2, t3, Bool.and_false] at hz
      subst hz
      clear HZ
      go_wp2
      go_ret
      exact ⟨rfl, G2.out⟩
    have t3 : (y == y') = true := beq_iff_eq.2 h3
    have hz := HZ.out
    simp only [t0, t1, t2, t3, Bool.and_self] at hz
    subst hz
    clear HZ
    go_wp2
    go_ret
    exact ⟨rfl, G2.out⟩
  exact run _ rfl
theorem rvsame_eq {u v : Vt.Vtx} {z : Bool} (h : (u == v) = z) (bu pu bv pv : Value) (w : World) (hbu : BtsAt w bu u.2.2.1) (hpu : TxAt w pu u.2.2.2.1) (hbv : BtsAt w bv v.2.2.1) (hpv : TxAt w pv v.2.2.2.1) (lb : u.2.2.1.length ≤ 140737488351232) (hs : Vt.Small u.2.2.1) (lp : u.2.2.2.1.length ≤ 140737488351232) :
    Calls Try.prog 31 #[vtxV u.1 u.2.1 bu pu u.2.2.2.2.1 u.2.2.2.2.2, vtxV v.1 v.2.1 bv pv v.2.2.2.2.1 v.2.2.2.2.2] w fun e w' => e = .returned (.bool z) ∧ Below w.heap.size w w' := by subst h; exact rvsame u v bu pu bv pv w hbu hpu hbv hpv lb hs lp
end Go.Proofs.Ytbkpekpajeaacaa
