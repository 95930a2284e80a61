/- BatMath, BatGo, BatRef, BatBox, Keep, BatBytes, in one. -/
import Derived.Test.YtbkpekpajeaacaaGDig
import Derived.RangeFuncBox
import Derived.Deep.RegionWith
import Derived.Deep.RegionHeld3
import Derived.OrdersHeld
section
/- Batches as bytes, and back: plain functions. No program is named here. -/
namespace Bt
open Dg

/-- A batch: its origin, its number, its texts. -/
abbrev Bat := Int × Int × List (List UInt8)
def may (b : Bat) : Bool := decide (1 ≤ b.1 ∧ b.1 ≤ 64 ∧ 1 ≤ b.2.1 ∧ b.2.1 ≤ 1073741824 ∧ 1 ≤ b.2.2.length ∧ b.2.2.length ≤ 4 ∧ ∀ t ∈ b.2.2, 1 ≤ t.length ∧ t.length ≤ 48)
def bytes (b : Bat) : List UInt8 := num b.1.toNat ++ num b.2.1.toNat ++ row b.2.2
/-- What 'Bytes' answers. -/
def bytesR (b : Bat) : List UInt8 × Nat := if may b = true then (bytes b, 0) else ([], 1)
def none : Bat × Nat := ((0, 0, []), 3)
/-- What 'Take' answers. -/
def take (s : List UInt8) : Bat × Nat :=
  if (takeNum s).2.2 ≠ 0 then none
  else if (takeNum (takeNum s).2.1).2.2 ≠ 0 then none
  else if (takeRow (takeNum (takeNum s).2.1).2.1 4 48).2.2 ≠ 0 then none
  else if (takeRow (takeNum (takeNum s).2.1).2.1 4 48).2.1 ≠ [] then none
  else if may (((takeNum s).1 : Int), ((takeNum (takeNum s).2.1).1 : Int), (takeRow (takeNum (takeNum s).2.1).2.1 4 48).1) = true then
    ((((takeNum s).1 : Int), ((takeNum (takeNum s).2.1).1 : Int), (takeRow (takeNum (takeNum s).2.1).2.1 4 48).1), 0) else none

theorem may_iff (b : Bat) : may b = true ↔ 1 ≤ b.1 ∧ b.1 ≤ 64 ∧ 1 ≤ b.2.1 ∧ b.2.1 ≤ 1073741824 ∧ 1 ≤ b.2.2.length ∧ b.2.2.length ≤ 4 ∧ ∀ t ∈ b.2.2, 1 ≤ t.length ∧ t.length ≤ 48 := by
  rw [may, decide_eq_true_iff]

theorem take1 {s a : List UInt8} {o x : Nat} (h : takeNum s = (o, a, x)) (hx : x ≠ 0) : take s = none := by
  unfold take; rw [if_pos]; rw [h]; exact hx
theorem take2 {s a b : List UInt8} {o q y : Nat} (h : takeNum s = (o, a, 0)) (h2 : takeNum a = (q, b, y)) (hy : y ≠ 0) : take s = none := by
  unfold take; rw [h, if_neg (by simp), h2, if_pos]; exact hy
theorem take3 {s a b : List UInt8} {o q : Nat} {l : List (List UInt8)} {c : List UInt8} {z : Nat} (h : takeNum s = (o, a, 0)) (h2 : takeNum a = (q, b, 0)) (h3 : takeRow b 4 48 = (l, c, z))
    (hb : z ≠ 0 ∨ c ≠ [] ∨ may ((o : Int), (q : Int), l) = false) : take s = none := by
  unfold take; rw [h, if_neg (by simp), h2, if_neg (by simp), h3]
  by_cases h1 : z = 0
  · subst h1
    rw [if_neg (by simp)]
    by_cases h4 : c = []
    · subst h4
      rw [if_neg (by simp)]
      have : may ((o : Int), (q : Int), l) = false := by
        rcases hb with hb | hb | hb
        · exact absurd rfl hb
        · exact absurd rfl hb
        · exact hb
      rw [if_neg (by simp [this])]
    · rw [if_pos h4]
  · rw [if_pos h1]
theorem take4 {s a b : List UInt8} {o q : Nat} {l : List (List UInt8)} (h : takeNum s = (o, a, 0)) (h2 : takeNum a = (q, b, 0)) (h3 : takeRow b 4 48 = (l, [], 0))
    (hm : may ((o : Int), (q : Int), l) = true) : take s = (((o : Int), (q : Int), l), 0) := by
  unfold take; rw [h, if_neg (by simp), h2, if_neg (by simp), h3, if_neg (by simp), if_neg (by simp), if_pos hm]

/-- What is taken is a batch that may be, of just these bytes; or none. -/
theorem take_or (s : List UInt8) : take s = none ∨ ∃ b, take s = (b, 0) ∧ may b = true ∧ bytes b = s := by
  obtain ⟨o, a, x, h1⟩ : ∃ o a x, takeNum s = (o, a, x) := ⟨_, _, _, rfl⟩
  by_cases hx : x = 0
  · subst hx
    obtain ⟨q, b, y, h2⟩ : ∃ q b y, takeNum a = (q, b, y) := ⟨_, _, _, rfl⟩
    by_cases hy : y = 0
    · subst hy
      obtain ⟨l, c, z, h3⟩ : ∃ l c z, takeRow b 4 48 = (l, c, z) := ⟨_, _, _, rfl⟩
      by_cases hb : z ≠ 0 ∨ c ≠ [] ∨ may ((o : Int), (q : Int), l) = false
      · exact .inl (take3 h1 h2 h3 hb)
      · have hz : z = 0 := by
          rcases Nat.eq_zero_or_pos z with e | e
          · exact e
          · exact absurd (.inl (by omega)) hb
        subst hz
        have hc : c = [] := by
          rcases Classical.em (c = []) with e | e
          · exact e
          · exact absurd (.inr (.inl e)) hb
        subst hc
        have hm : may ((o : Int), (q : Int), l) = true := by
          cases e : may ((o : Int), (q : Int), l) with
          | true => rfl
          | false => exact absurd (.inr (.inr e)) hb
        refine .inr ⟨_, take4 h1 h2 h3 hm, hm, ?_⟩
        have e1 := takeNum_back s a o h1
        have e2 := takeNum_back a b q h2
        obtain ⟨e3, _⟩ := takeRow_back b [] l 4 48 h3
        simp only [bytes, Int.toNat_natCast]
        rw [List.append_nil] at e3
        rw [List.append_assoc, e3, e2, e1]
    · exact .inl (take2 h1 h2 hy)
  · exact .inl (take1 h1 hx)

/-- The bytes of a batch that may be, and whatever stands behind. -/
theorem parts (b : Bat) (more : List UInt8) (h : may b = true) : takeNum (bytes b ++ more) = (b.1.toNat, num b.2.1.toNat ++ (row b.2.2 ++ more), 0) ∧ takeNum (num b.2.1.toNat ++ (row b.2.2 ++ more)) = (b.2.1.toNat, row b.2.2 ++ more, 0) ∧ takeRow (row b.2.2 ++ more) 4 48 = (b.2.2, more, 0) := by
  rw [may_iff] at h
  obtain ⟨h1, h2, h3, h4, h5, h6, h7⟩ := h
  refine ⟨?_, ?_, ?_⟩
  · simp only [bytes, List.append_assoc]
    exact takeNum_num _ (by omega) _
  · exact takeNum_num _ (by omega) _
  · exact takeRow_row _ _ _ _ (by omega) (by omega) (fun t ht => by have := h7 t ht; omega) (fun t ht => by have := h7 t ht; omega)
theorem back (b : Bat) (h : may b = true) : take (bytes b) = (b, 0) := by
  obtain ⟨h1, h2, h3⟩ := parts b [] h
  simp only [List.append_nil] at h1 h2 h3
  obtain ⟨o, q, l⟩ := b
  have hm := h
  rw [may_iff] at h
  obtain ⟨o', rfl⟩ := Int.eq_ofNat_of_zero_le (show 0 ≤ o by simp only [] at h; omega)
  obtain ⟨q', rfl⟩ := Int.eq_ofNat_of_zero_le (show 0 ≤ q by simp only [] at h; omega)
  exact take4 h1 h2 h3 hm
theorem longer (b : Bat) (more : List UInt8) (h : may b = true) (hm : more ≠ []) : take (bytes b ++ more) = none := by
  obtain ⟨h1, h2, h3⟩ := parts b more h
  exact take3 h1 h2 h3 (.inr (.inl hm))
theorem cut (b : Bat) (k : Nat) (h : may b = true) (hk : k < (bytes b).length) : take ((bytes b).take k) = none := by
  rcases take_or ((bytes b).take k) with e | ⟨c, _, hc, e⟩
  · exact e
  · exfalso
    have hb := back b h
    have hne : (bytes b).drop k ≠ [] := by
      intro e
      have := congrArg List.length e
      simp at this
      omega
    have := longer c ((bytes b).drop k) hc hne
    rw [e, List.take_append_drop, hb] at this
    simp [none] at this
theorem apart (a b : Bat) (ha : may a = true) (hb : may b = true) : bytes a = bytes b ↔ a = b := by
  refine ⟨fun e => ?_, fun e => by rw [e]⟩
  have h1 := back a ha
  rw [e, back b hb] at h1
  simpa using h1.symm
theorem bytesR_ok {b : Bat} (h : may b = true) : bytesR b = (bytes b, 0) := by rw [bytesR, if_pos h]
theorem bytesR_no {b : Bat} (h : may b = false) : bytesR b = ([], 1) := by rw [bytesR, if_neg (by simp [h])]

theorem texts_48 (l : List (List UInt8)) (h : ∀ t ∈ l, 1 ≤ t.length ∧ t.length ≤ 48) : (texts l).length ≤ 57 * l.length := by
  induction l with
  | nil => simp [texts]
  | cons t l ih =>
    have h1 := h t (by simp)
    have h2 := ih fun x hx => h x (by simp [hx])
    have := num_len t.length
    simp only [texts, text, List.length_append, List.length_cons]
    omega
theorem bytes_len (b : Bat) (h : may b = true) : (bytes b).length ≤ 300 := by
  rw [may_iff] at h
  obtain ⟨h1, h2, h3, h4, h5, h6, h7⟩ := h
  have := texts_48 _ h7
  have n1 := num_len b.1.toNat
  have n2 := num_len b.2.1.toNat
  have n3 := num_len b.2.2.length
  simp only [bytes, row, List.length_append]
  omega
theorem takeO {s a : List UInt8} {o : Nat} (h : takeNum s = (o, a, 0)) (ho : 64 < o) : take s = none := by
  rcases take_or s with e | ⟨b, _, hm, hb⟩
  · exact e
  · exfalso
    obtain ⟨h1, _, _⟩ := parts b [] hm
    rw [List.append_nil, hb, h] at h1
    have h2 := (may_iff b).1 hm
    simp only [Prod.mk.injEq] at h1
    omega
theorem takeQ {s a b : List UInt8} {o q : Nat} (h : takeNum s = (o, a, 0)) (h2 : takeNum a = (q, b, 0)) (hq : 1073741824 < q) : take s = none := by
  rcases take_or s with e | ⟨c, _, hm, hb⟩
  · exact e
  · exfalso
    obtain ⟨h1, h3, _⟩ := parts c [] hm
    rw [List.append_nil, hb, h] at h1
    simp only [Prod.mk.injEq] at h1
    rw [← h1.2.1, h2] at h3
    simp only [Prod.mk.injEq] at h3
    have h4 := (may_iff c).1 hm
    omega
end Bt
end
section
/- Package batch as it landed, and the document's: which batches may be. -/
namespace Bt
def wrong (t : List UInt8) : Bool := decide (t = [] ∨ 48 < t.length)
def mayT (l : List (List UInt8)) : Bool := decide (∀ t ∈ l, 1 ≤ t.length ∧ t.length ≤ 48)
theorem wrong_may (t : List UInt8) : wrong t = false ↔ 1 ≤ t.length ∧ t.length ≤ 48 := by
  rw [wrong, decide_eq_false_iff_not]
  cases t with
  | nil => simp
  | cons x t => simp
theorem may_eq (o q : Int) (l : List (List UInt8)) : may (o, q, l) = (decide (1 ≤ o) && decide (o ≤ 64) && decide (1 ≤ q) && decide (q ≤ 1073741824) && decide (1 ≤ l.length) && decide (l.length ≤ 4) && mayT l) := by
  rw [may, mayT, Bool.eq_iff_iff]
  simp only [decide_eq_true_iff, Bool.and_eq_true]
  constructor
  · rintro ⟨h1, h2, h3, h4, h5, h6, h7⟩; exact ⟨⟨⟨⟨⟨⟨h1, h2⟩, h3⟩, h4⟩, h5⟩, h6⟩, h7⟩
  · rintro ⟨⟨⟨⟨⟨⟨h1, h2⟩, h3⟩, h4⟩, h5⟩, h6⟩, h7⟩; exact ⟨h1, h2, h3, h4, h5, h6, h7⟩
theorem mayT_hit (l : List (List UInt8)) (k : Nat) (h : k < l.length) (hw : wrong l[k] = true) : mayT l = false := by
  rw [mayT, decide_eq_false_iff_not]
  intro hh
  have := (wrong_may l[k]).2 (hh _ (List.getElem_mem h))
  rw [hw] at this; cases this
theorem mayT_all (l : List (List UInt8)) (h : ∀ j (hj : j < l.length), wrong l[j] = false) : mayT l = true := by
  rw [mayT, decide_eq_true_iff]
  intro t ht
  obtain ⟨i, hi, rfl⟩ := List.getElem_of_mem ht
  exact (wrong_may _).1 (h i hi)
end Bt
namespace Go.Proofs.Ytbkpekpajeaacaa
open Go.RowKit

/-- A batch as a value. -/
abbrev batV (o q : Int) (v : Value) : Value := .agg #[.int .i64 o, .int .i64 q, v]

set_option maxHeartbeats 1000000 in
theorem pwrong (t : List UInt8) (w : World) : Calls Try.prog 117 #[tx t] w fun e w' => e = .returned (.bool (Bt.wrong t)) ∧ w' = w := by
  cases t with
  | nil =>
    go_enter Try.func117, Try.ntmps117
    go_wp2
    go_ret
    exact ⟨rfl, rfl⟩
  | cons x t =>
    have e : Bt.wrong (x :: t) = decide (48 < t.length + 1) := by simp [Bt.wrong]
    have e2 : decide (48 < (t.length : Int) + 1) = decide (48 < t.length + 1) := decide_eq_decide.mpr (by omega)
    rw [e, ← e2]
    clear e e2
    go_enter Try.func117, Try.ntmps117
    go_wp2
    go_ret
    exact ⟨rfl, rfl⟩

def idxW (l : List (List UInt8)) (r : Int) : Prop := (r = -1 ∧ Bt.mayT l = true) ∨ (0 ≤ r ∧ Bt.mayT l = false)

set_option maxHeartbeats 1000000 in
theorem pidxW (v : Value) (l : List (List UInt8)) (w : World) (hv : TxAt w v l) (hl : l.length ≤ 140737488351232) :
    Calls Try.prog 126 #[v, .func (.func 117) #[] #[]] w fun e w' => ∃ r, e = .returned (.int .i64 r) ∧ idxW l r ∧ Below w.heap.size w w' := by
  rcases hv with ⟨a, cap, rfl, rfl⟩ | ⟨b, off, cap, rfl, hc⟩
  · go_enter Try.func126, Try.ntmps126
    go_wp2_with fail
    refine wp_loop_rounds 1 ?_
    rw [rounds_succ]
    go_wp2
    go_ret
    exact ⟨_, rfl, .inl ⟨rfl, by simp [Bt.mayT]⟩, Below.refl _ _⟩
  · have HC := Lib.hid hc
    clear hc
    go_enter Try.func126, Try.ntmps126
    go_wp2_with fail
    go_loopw [5, 8] (fun _ i wr => ∃ k : Nat, i = .int .i64 k ∧ k ≤ l.length ∧ (∀ j (hj : j < l.length), j < k → Bt.wrong l[j] = false) ∧ Below w.heap.size w wr) (fun _ i _ => l.length - (intOf i).toNat)
    case atStart => exact ⟨0, rfl, by omega, fun _ _ h => absurd h (by omega), Below.refl _ _⟩
    case round =>
      obtain ⟨k, rfl, hk, hn, hbel⟩ := hrel
      have HN := Lib.hid hn
      have HB := Lib.hid hbel
      clear hn hbel
      by_cases hlt : k < l.length
      · have c1 := below_cell HB.out (HC.out k hlt)
        have hcl := fun W => pwrong l[k] W
        have hstep : Bt.wrong l[k] = false → ∀ j (hj : j < l.length), j < k + 1 → Bt.wrong l[j] = false := by
          intro he j hj hjk
          by_cases e : j = k
          · subst e; exact he
          · exact HN.out j hj (by omega)
        have hfound : Bt.wrong l[k] = true → Bt.mayT l = false := fun he => Bt.mayT_hit l k hlt he
        have HS := Lib.hid hstep
        have HF := Lib.hid hfound
        clear hstep hfound
        obtain ⟨y, hy⟩ : ∃ y, l[k] = y := ⟨_, rfl⟩
        rw [hy] at c1 hcl HS HF
        cases hr : Bt.wrong y with
        | true =>
          rw [hr] at hcl
          have HF2 := Lib.hid (HF.out hr)
          clear hr hy
          go_wp2_with fail
          refine (hcl _).mono ?_
          rintro e w1 ⟨rfl, rfl⟩
          go_wp2
          go_ret
          exact ⟨_, rfl, .inr ⟨by omega, HF2.out⟩, HB.out⟩
        | false =>
          rw [hr] at hcl
          have HS2 := Lib.hid (HS.out hr)
          clear hr hy
          go_wp2_with fail
          refine (hcl _).mono ?_
          rintro e w1 ⟨rfl, rfl⟩
          go_wp2
          go_roundw
          case rel => exact ⟨k + 1, by go_num, hlt, HS2.out, HB.out⟩
          case measure => simp [intOf]; omega
      · obtain rfl : k = l.length := by omega
        have HF := Lib.hid (Bt.mayT_all l fun j hj => HN.out j hj hj)
        go_wp2
        go_ret
        exact ⟨_, rfl, .inl ⟨rfl, HF.out⟩, HB.out⟩

set_option maxHeartbeats 1000000 in
theorem pcontW (v : Value) (l : List (List UInt8)) (w : World) (hv : TxAt w v l) (hl : l.length ≤ 140737488351232) :
    Calls Try.prog 118 #[v, .func (.func 117) #[] #[]] w fun e w' => e = .returned (.bool (!Bt.mayT l)) ∧ Below w.heap.size w w' := by
  have hi := fun W h => pidxW v l W h hl
  have HV := Lib.hid hv
  clear hv
  cases hm : Bt.mayT l with
  | true =>
    have hx : ∀ r, idxW l r → r = -1 := fun r hr => by
      rcases hr with ⟨h, _⟩ | ⟨_, h⟩
      · exact h
      · rw [hm] at h; cases h
    have HX := Lib.hid hx
    clear hx hm
    go_enter Try.func118, Try.ntmps118
    go_wp2_with fail
    refine (hi _ HV.out).mono ?_
    rintro e w1 ⟨r, rfl, hr, hb⟩
    obtain rfl := HX.out r hr
    clear hr hi
    go_wp2
    go_ret
    exact ⟨rfl, hb⟩
  | false =>
    have hx : ∀ r, idxW l r → decide (0 ≤ r) = true := fun r hr => by
      rcases hr with ⟨_, h⟩ | ⟨h, _⟩
      · rw [hm] at h; cases h
      · simpa using h
    have HX := Lib.hid hx
    clear hx hm
    go_enter Try.func118, Try.ntmps118
    go_wp2_with fail
    refine (hi _ HV.out).mono ?_
    rintro e w1 ⟨r, rfl, hr, hb⟩
    have t1 := HX.out r hr
    clear hr hi
    go_wp2
    go_ret
    exact ⟨rfl, hb⟩

set_option maxHeartbeats 2000000 in
theorem pbmay (o q : Int) (v : Value) (l : List (List UInt8)) (w : World) (hv : TxAt w v l) (hl : l.length ≤ 140737488351232) :
    Calls Try.prog 93 #[batV o q v] w fun e w' => e = .returned (.bool (Bt.may (o, q, l))) ∧ Below w.heap.size w w' := by
  rw [Bt.may_eq]
  obtain ⟨aa, cap, rfl⟩ := hv.len
  have hc := fun W h => pcontW (.slice aa l.length cap) l W h hl
  have HV := Lib.hid hv
  have hg : Below w.heap.size w (w.alloc (.cells #[.int .i64 o, .int .i64 q, .slice aa l.length cap] 105)) := (Below.refl _ _).alloc (Nat.le_refl _) _
  have GR := Lib.hid hg
  clear hv hg
  by_cases h1 : o < 1
  · rw [decide_eq_false (show ¬ 1 ≤ o by omega)]
    simp only [Bool.false_and]
    clear hc
    go_enter Try.func93, Try.ntmps93
    go_wp2
    go_ret
    exact ⟨rfl, GR.out⟩
  rw [decide_eq_true (show 1 ≤ o by omega)]
  have t1 : decide (o < 1) = false := decide_eq_false h1
  by_cases h2 : 64 < o
  · rw [decide_eq_false (show ¬ o ≤ 64 by omega)]
    simp only [Bool.true_and, Bool.false_and]
    clear hc h1
    go_enter Try.func93, Try.ntmps93
    go_wp2
    go_ret
    exact ⟨rfl, GR.out⟩
  rw [decide_eq_true (show o ≤ 64 by omega)]
  have t2 : decide (64 < o) = false := decide_eq_false h2
  by_cases h3 : q < 1
  · rw [decide_eq_false (show ¬ 1 ≤ q by omega)]
    simp only [Bool.true_and, Bool.false_and]
    clear hc h1 h2
    go_enter Try.func93, Try.ntmps93
    go_wp2
    go_ret
    exact ⟨rfl, GR.out⟩
  rw [decide_eq_true (show 1 ≤ q by omega)]
  have t3 : decide (q < 1) = false := decide_eq_false h3
  by_cases h4 : 1073741824 < q
  · rw [decide_eq_false (show ¬ q ≤ 1073741824 by omega)]
    simp only [Bool.true_and, Bool.false_and]
    clear hc h1 h2 h3
    go_enter Try.func93, Try.ntmps93
    go_wp2
    go_ret
    exact ⟨rfl, GR.out⟩
  rw [decide_eq_true (show q ≤ 1073741824 by omega)]
  have t4 : decide (1073741824 < q) = false := decide_eq_false h4
  by_cases h5 : l.length = 0
  · rw [decide_eq_false (show ¬ 1 ≤ l.length by omega)]
    simp only [Bool.true_and, Bool.false_and]
    have t5 : ((l.length : Int) == 0) = true := by simpa using h5
    clear hc h1 h2 h3 h4 h5
    go_enter Try.func93, Try.ntmps93
    go_wp2
    go_ret
    exact ⟨rfl, GR.out⟩
  rw [decide_eq_true (show 1 ≤ l.length by omega)]
  have t5 : ((l.length : Int) == 0) = false := by simpa using h5
  by_cases h6 : 4 < l.length
  · rw [decide_eq_false (show ¬ l.length ≤ 4 by omega)]
    simp only [Bool.true_and, Bool.false_and]
    have t6 : decide (4 < (l.length : Int)) = true := decide_eq_true (by omega)
    clear hc h1 h2 h3 h4 h5 h6
    go_enter Try.func93, Try.ntmps93
    go_wp2
    go_ret
    exact ⟨rfl, GR.out⟩
  rw [decide_eq_true (show l.length ≤ 4 by omega)]
  simp only [Bool.true_and]
  have t6 : decide (4 < (l.length : Int)) = false := decide_eq_false (by omega)
  have HC := Lib.hid hc
  clear hc h1 h2 h3 h4 h5 h6
  cases hm : Bt.mayT l with
  | true =>
    rw [hm] at HC
    clear hm
    go_enter Try.func93, Try.ntmps93
    go_wp2_with fail
    refine (HC.out _ (HV.out.below GR.out)).mono ?_
    rintro e w1 ⟨rfl, hb⟩
    have hb2 := grow_trans GR.out hb
    go_wp2
    go_ret
    exact ⟨rfl, hb2⟩
  | false =>
    rw [hm] at HC
    clear hm
    go_enter Try.func93, Try.ntmps93
    go_wp2_with fail
    refine (HC.out _ (HV.out.below GR.out)).mono ?_
    rintro e w1 ⟨rfl, hb⟩
    have hb2 := grow_trans GR.out hb
    go_wp2
    go_ret
    exact ⟨rfl, hb2⟩
end Go.Proofs.Ytbkpekpajeaacaa
end
section
/- The document's May for batches. -/
namespace Go.Proofs.Ytbkpekpajeaacaa
open Go.RowKit

set_option maxHeartbeats 4000000 in
theorem rbmay (o q : Int) (v : Value) (l : List (List UInt8)) (w : World) (hv : TxAt w v l) :
    Calls Try.prog 97 #[batV o q v] w fun e w' => e = .returned (.bool (Bt.may (o, q, l))) ∧ Below w.heap.size w w' := by
  rw [Bt.may_eq]
  have hg : Below w.heap.size w (w.alloc (.cells #[.int .i64 o, .int .i64 q, v] 105)) := (Below.refl _ _).alloc (Nat.le_refl _) _
  rcases hv with ⟨aa, cap, rfl, rfl⟩ | ⟨b, off, cap, rfl, hc⟩
  · have GR := Lib.hid hg
    clear hg
    by_cases h0 : o < 1
    · rw [decide_eq_false (show ¬ 1 ≤ o by omega)]
      simp only [Bool.false_and]
      have t0 : decide (o < 1) = true := decide_eq_true h0
      clear h0
      go_enter Try.func97, Try.ntmps97
      go_wp2
      go_ret
      exact ⟨rfl, GR.out⟩
    rw [decide_eq_true (show 1 ≤ o by omega)]
    have t0 : decide (o < 1) = false := decide_eq_false h0
    by_cases h1 : 64 < o
    · rw [decide_eq_false (show ¬ o ≤ 64 by omega)]
      simp only [Bool.true_and, Bool.false_and]
      have t1 : decide (64 < o) = true := decide_eq_true h1
      clear h0 h1
      go_enter Try.func97, Try.ntmps97
      go_wp2
      go_ret
      exact ⟨rfl, GR.out⟩
    rw [decide_eq_true (show o ≤ 64 by omega)]
    have t1 : decide (64 < o) = false := decide_eq_false h1
    by_cases h2 : q < 1
    · rw [decide_eq_false (show ¬ 1 ≤ q by omega)]
      simp only [Bool.true_and, Bool.false_and]
      have t2 : decide (q < 1) = true := decide_eq_true h2
      clear h0 h1 h2
      go_enter Try.func97, Try.ntmps97
      go_wp2
      go_ret
      exact ⟨rfl, GR.out⟩
    rw [decide_eq_true (show 1 ≤ q by omega)]
    have t2 : decide (q < 1) = false := decide_eq_false h2
    by_cases h3 : 1073741824 < q
    · rw [decide_eq_false (show ¬ q ≤ 1073741824 by omega)]
      simp only [Bool.true_and, Bool.false_and]
      have t3 : decide (1073741824 < q) = true := decide_eq_true h3
      clear h0 h1 h2 h3
      go_enter Try.func97, Try.ntmps97
      go_wp2
      go_ret
      exact ⟨rfl, GR.out⟩
    rw [decide_eq_true (show q ≤ 1073741824 by omega)]
    have t3 : decide (1073741824 < q) = false := decide_eq_false h3
    clear h0 h1 h2 h3
    go_enter Try.func97, Try.ntmps97
    go_wp2
    go_ret
    exact ⟨rfl, GR.out⟩
  · have GR := Lib.hid hg
    have HC := Lib.hid hc
    clear hg hc
    by_cases h0 : o < 1
    · rw [decide_eq_false (show ¬ 1 ≤ o by omega)]
      simp only [Bool.false_and]
      have t0 : decide (o < 1) = true := decide_eq_true h0
      clear h0
      go_enter Try.func97, Try.ntmps97
      go_wp2
      go_ret
      exact ⟨rfl, GR.out⟩
    rw [decide_eq_true (show 1 ≤ o by omega)]
    have t0 : decide (o < 1) = false := decide_eq_false h0
    by_cases h1 : 64 < o
    · rw [decide_eq_false (show ¬ o ≤ 64 by omega)]
      simp only [Bool.true_and, Bool.false_and]
      have t1 : decide (64 < o) = true := decide_eq_true h1
      clear h0 h1
      go_enter Try.func97, Try.ntmps97
      go_wp2
      go_ret
      exact ⟨rfl, GR.out⟩
    rw [decide_eq_true (show o ≤ 64 by omega)]
    have t1 : decide (64 < o) = false := decide_eq_false h1
    by_cases h2 : q < 1
    · rw [decide_eq_false (show ¬ 1 ≤ q by omega)]
      simp only [Bool.true_and, Bool.false_and]
      have t2 : decide (q < 1) = true := decide_eq_true h2
      clear h0 h1 h2
      go_enter Try.func97, Try.ntmps97
      go_wp2
      go_ret
      exact ⟨rfl, GR.out⟩
    rw [decide_eq_true (show 1 ≤ q by omega)]
    have t2 : decide (q < 1) = false := decide_eq_false h2
    by_cases h3 : 1073741824 < q
    · rw [decide_eq_false (show ¬ q ≤ 1073741824 by omega)]
      simp only [Bool.true_and, Bool.false_and]
      have t3 : decide (1073741824 < q) = true := decide_eq_true h3
      clear h0 h1 h2 h3
      go_enter Try.func97, Try.ntmps97
      go_wp2
      go_ret
      exact ⟨rfl, GR.out⟩
    rw [decide_eq_true (show q ≤ 1073741824 by omega)]
    have t3 : decide (1073741824 < q) = false := decide_eq_false h3
    by_cases h4 : l.length < 1
    · rw [decide_eq_false (show ¬ 1 ≤ l.length by omega)]
      simp only [Bool.true_and, Bool.false_and]
      have t4 : decide ((l.length : Int) < 1) = true := decide_eq_true (by omega)
      clear h0 h1 h2 h3 h4
      go_enter Try.func97, Try.ntmps97
      go_wp2
      go_ret
      exact ⟨rfl, GR.out⟩
    rw [decide_eq_true (show 1 ≤ l.length by omega)]
    have t4 : decide ((l.length : Int) < 1) = false := decide_eq_false (by omega)
    by_cases h5 : 4 < l.length
    · rw [decide_eq_false (show ¬ l.length ≤ 4 by omega)]
      simp only [Bool.true_and, Bool.false_and]
      have t5 : decide (4 < (l.length : Int)) = true := decide_eq_true (by omega)
      clear h0 h1 h2 h3 h4 h5
      go_enter Try.func97, Try.ntmps97
      go_wp2
      go_ret
      exact ⟨rfl, GR.out⟩
    rw [decide_eq_true (show l.length ≤ 4 by omega)]
    have t5 : decide (4 < (l.length : Int)) = false := decide_eq_false (by omega)
    simp only [Bool.true_and]
    clear h0 h1 h2 h3 h4
    go_enter Try.func97, Try.ntmps97
    go_wp2_with fail
    go_loopw [3] (fun i wr => ∃ k : Nat, i = .int .i64 k ∧ k ≤ l.length ∧ (∀ j (hj : j < l.length), j < k → Bt.wrong l[j] = false) ∧ wr = w.alloc (.cells #[.int .i64 o, .int .i64 q, .slice (some ⟨b, off, none⟩) l.length cap] 105)) (fun i _ => l.length - (intOf i).toNat)
    case atStart => exact ⟨0, rfl, by omega, fun _ _ h => absurd h (by omega), rfl⟩
    case round =>
      obtain ⟨k, rfl, hk, hn, rfl⟩ := hrel
      have HN := Lib.hid hn
      clear hn
      by_cases hlt : k < l.length
      · have c1 := below_cell GR.out (HC.out k hlt)
        have hstep : Bt.wrong l[k] = false → ∀ j (hj : j < l.length), j < k + 1 → Bt.wrong l[j] = false := by
          intro he j hj hjk
          by_cases e : j = k
          · subst e; exact he
          · exact HN.out j hj (by omega)
        have hfound : Bt.wrong l[k] = true → Bt.mayT l = false := fun he => Bt.mayT_hit l k hlt he
        have HS := Lib.hid hstep
        have HF := Lib.hid hfound
        clear hstep hfound
        obtain ⟨y, hy⟩ : ∃ y, l[k] = y := ⟨_, rfl⟩
        rw [hy] at c1 HS HF
        clear hy
        by_cases y1 : y.length < 1
        · have hw : Bt.wrong y = true := by
            cases e : Bt.wrong y with
            | true => rfl
            | false => have := (Bt.wrong_may y).1 e; omega
          have HF2 := Lib.hid (HF.out hw)
          have u1 : decide ((y.length : Int) < 1) = true := decide_eq_true (by omega)
          clear hw y1
          go_wp2
          go_ret
          exact ⟨by rw [HF2.out]; rfl, GR.out⟩
        have u1 : decide ((y.length : Int) < 1) = false := decide_eq_false (by omega)
        by_cases y2 : 48 < y.length
        · have hw : Bt.wrong y = true := by
            cases e : Bt.wrong y with
            | true => rfl
            | false => have := (Bt.wrong_may y).1 e; omega
          have HF2 := Lib.hid (HF.out hw)
          have u2 : decide (48 < (y.length : Int)) = true := decide_eq_true (by omega)
          clear hw y1 y2
          go_wp2
          go_ret
          exact ⟨by rw [HF2.out]; rfl, GR.out⟩
        have u2 : decide (48 < (y.length : Int)) = false := decide_eq_false (by omega)
        have HS2 := Lib.hid (HS.out ((Bt.wrong_may y).2 (by omega)))
        clear y1 y2
        go_wp2
        go_roundw
        case rel => exact ⟨k + 1, by go_num, hlt, HS2.out, trivial⟩
        case measure => simp [intOf]; omega
      · obtain rfl : k = l.length := by omega
        have HF := Lib.hid (Bt.mayT_all l fun j hj => HN.out j hj hj)
        go_wp2
        go_ret
        exact ⟨by rw [HF.out]; rfl, GR.out⟩
end Go.Proofs.Ytbkpekpajeaacaa
end
section
/- A variable of three cells in a block of its own: a batch. -/
namespace Go.Proofs.Ytbkpekpajeaacaa
open Go.RowKit

def BBox (W : World) (B : Nat) (o q : Int) (v : Value) : Prop := W.heap[B]? = some (.cells #[.int .i64 o, .int .i64 q, v] 105 (0, 0))
theorem BBox.lt {W : World} {B : Nat} {o q : Int} {v : Value} (h : BBox W B o q v) : B < W.heap.size := (Array.getElem?_eq_some_iff.1 h).1
theorem BBox.facts {W : World} {B : Nat} {o q : Int} {v : Value} (h : BBox W B o q v) : W.cell? ⟨B, 0, none⟩ = some (.int .i64 o) ∧ W.cell? ⟨B, 1, none⟩ = some (.int .i64 q) ∧ W.cell? ⟨B, 2, none⟩ = some v ∧ W.frozen? ⟨B, 0, none⟩ = false ∧ W.frozen? ⟨B, 1, none⟩ = false ∧ W.frozen? ⟨B, 2, none⟩ = false := by
  have e : W.heap[B]? = _ := h
  refine ⟨?_, ?_, ?_, ?_, ?_, ?_⟩ <;> simp [World.cell?, World.frozen?, e]
theorem BBox.new (W : World) (o q : Int) (v : Value) : BBox (W.alloc (.cells #[.int .i64 o, .int .i64 q, v] 105)) W.heap.size o q v := World.alloc_heap_new W _
theorem BBox.below {W W' : World} {B n : Nat} {o q : Int} {v : Value} (h : BBox W B o q v) (hb : Below n W W') (hn : B < n) : BBox W' B o q v := (hb.block B hn).trans h
theorem BBox.alloc {W : World} {B : Nat} {o q : Int} {v : Value} (h : BBox W B o q v) (b : Obj) : BBox (W.alloc b) B o q v := h.below ((Below.refl _ _).alloc (Nat.le_refl _) b) h.lt
theorem BBox.kept {W W' : World} {B : Nat} {o q : Int} {v : Value} (h : BBox W B o q v) (hb : Below W.heap.size W W') : BBox W' B o q v := h.below hb h.lt
theorem heap_set3 {W : World} {B k : Nat} {cs : Array Value} {t : TypeId} (h : W.heap[B]? = some (.cells cs t (0, 0))) (v : Value) : (W.setCell ⟨B, k, none⟩ v).heap[B]? = some (.cells (cs.setIfInBounds k v) t (0, 0)) := by
  obtain ⟨hlt, hk⟩ := Array.getElem?_eq_some_iff.1 h
  show (W.heap.modify B _)[B]? = _
  rw [Array.getElem?_eq_getElem (by rw [Array.size_modify]; exact hlt), Array.getElem_modify_self, hk]
  rfl
theorem BBox.set {W : World} {B : Nat} {o q : Int} {v : Value} (h : BBox W B o q v) (a b : Int) (u : Value) : BBox (((W.setCell ⟨B, 0, none⟩ (.int .i64 a)).setCell ⟨B, 1, none⟩ (.int .i64 b)).setCell ⟨B, 2, none⟩ u) B a b u := by
  have h1 := heap_set3 (k := 0) h (.int .i64 a)
  have h2 := heap_set3 (k := 1) h1 (.int .i64 b)
  have h3 := heap_set3 (k := 2) h2 u
  exact h3
theorem BBox.set_below {W W' : World} {n B : Nat} (h : Below n W W') (hB : n ≤ B) (a b : Int) (u : Value) : Below n W (((W'.setCell ⟨B, 0, none⟩ (.int .i64 a)).setCell ⟨B, 1, none⟩ (.int .i64 b)).setCell ⟨B, 2, none⟩ u) :=
  ((h.setCell (p := ⟨B, 0, none⟩) hB _).setCell (p := ⟨B, 1, none⟩) hB _).setCell (p := ⟨B, 2, none⟩) hB _
theorem BBox.set_other (W : World) (B : Nat) (x y z : Value) (k : Nat) (h : k ≠ B) : (((W.setCell ⟨B, 0, none⟩ x).setCell ⟨B, 1, none⟩ y).setCell ⟨B, 2, none⟩ z).heap[k]? = W.heap[k]? :=
  (Below.heap_setCell _ ⟨B, 2, none⟩ z k h).trans ((Below.heap_setCell _ ⟨B, 1, none⟩ y k h).trans (Below.heap_setCell _ ⟨B, 0, none⟩ x k h))
/-- Texts don't lie in a batch's own cells. -/
theorem TxAt.setB {W : World} {v : Value} {ls : List (List UInt8)} {B n c : Nat} {a b : Int} {s : Option Addr} (h : TxAt W v ls) (hx : BBox W B a b (.slice s n c)) (x y z : Value) :
    TxAt (((W.setCell ⟨B, 0, none⟩ x).setCell ⟨B, 1, none⟩ y).setCell ⟨B, 2, none⟩ z) v ls := by
  rcases h with h | ⟨g, off, cap, hv, hc⟩
  · exact .inl h
  · refine .inr ⟨g, off, cap, hv, fun i hi => ?_⟩
    have h1 := hc i hi
    by_cases e : g = B
    · subst e
      exfalso
      have e2 : W.heap[g]? = _ := hx
      simp only [World.cell?, e2] at h1
      have e3 : (#[Value.int .i64 a, .int .i64 b, .slice s n c])[off + i]? = some (tx ls[i]) := by simpa using h1
      generalize off + i = j at e3
      match j, e3 with
      | 0, e3 => simp at e3
      | 1, e3 => simp at e3
      | 2, e3 => simp at e3
      | j + 3, e3 => simp at e3
    · rw [World.cell?_of_block (w := W) (a := ⟨g, off + i, none⟩) (BBox.set_other W B x y z g e)]
      exact h1
end Go.Proofs.Ytbkpekpajeaacaa
end
section
/- What calls keep in a region that draws. -/
namespace Go.Proofs.Ytbkpekpajeaacaa
open Go.RowKit
theorem keepB {F : Nat} {args : Array Value} {r : Value} {w : World} (S : World → Prop) (hk : ∀ a b, S a → Below a.heap.size a b → S b) (hc : Calls Try.prog F args w fun e w' => e = .returned r ∧ Below w.heap.size w w') (h : S w) :
    Calls Try.prog F args w fun e w' => e = .returned r ∧ S w' :=
  hc.mono fun _ _ ⟨he, hb⟩ => ⟨he, hk _ _ h hb⟩
theorem same_below {F : Nat} {args : Array Value} {r : Value} {w : World} (h : Calls Try.prog F args w fun e w' => e = .returned r ∧ w' = w) : Calls Try.prog F args w fun e w' => e = .returned r ∧ Below w.heap.size w w' :=
  h.mono fun _ _ hh => ⟨hh.1, by rw [hh.2]; exact Below.refl _ _⟩
theorem drew_below {F : Nat} {args : Array Value} {r : Value} {w : World} (h : Calls Try.prog F args w fun e w' => e = .returned r ∧ ∃ n, w' = w.drewN n) : Calls Try.prog F args w fun e w' => e = .returned r ∧ Below w.heap.size w w' :=
  h.mono fun _ _ hh => ⟨hh.1, by obtain ⟨n, e⟩ := hh.2; rw [e]; exact grow_draws _ _⟩
section
variable {P : Program} {l : List Oper} {Q : Exit → Act → World → Prop} {md : Region.Mode} {S : World → Prop}
/-- One step of a region that draws, taken by hand: an operation that is wanted; one that isn't. -/
theorem takeW {i : Nat} {oi : Oper} {v : Value} {fuel : Nat} {listed : Array Bool} {a : Act} {w : World} (hi : l[i]? = some oi)
    (hs : Region.noSelect l.toArray = true) (hf : Region.free md l.toArray listed i = true) (hr : (Region.ready md l.toArray listed).contains i = true)
    (hQ : ∀ c a w, Q (.panic c) (a.put oi.dst v) w → Q (.panic c) a w) (hw : Region.wanted oi (yielded l.toArray a.tmps) = true)
    (hy : ∀ w, S w → (execOp a.eval oi).run P w = .ok (.value v) w) (hS : S w)
    (h : wpAnyH P md l.toArray Q S fuel (listed.setIfInBounds i true) (a.put oi.dst v) w) : wpAnyH P md l.toArray Q S (fuel + 1) listed a w :=
  wpAnyH_take (by rw [List.getElem?_toArray]; exact hi) hs hf hr hQ (.inl ⟨hw, hy⟩) hS h
theorem takeU {i : Nat} {oi : Oper} {fuel : Nat} {listed : Array Bool} {a : Act} {w : World} (hi : l[i]? = some oi)
    (hs : Region.noSelect l.toArray = true) (hf : Region.free md l.toArray listed i = true) (hr : (Region.ready md l.toArray listed).contains i = true)
    (hQ : ∀ c a w, Q (.panic c) (a.put oi.dst undef) w → Q (.panic c) a w) (hw : Region.wanted oi (yielded l.toArray a.tmps) = false) (hS : S w)
    (h : wpAnyH P md l.toArray Q S fuel (listed.setIfInBounds i true) (a.put oi.dst undef) w) : wpAnyH P md l.toArray Q S (fuel + 1) listed a w :=
  wpAnyH_take (by rw [List.getElem?_toArray]; exact hi) hs hf hr hQ (.inr ⟨hw, rfl⟩) hS h
theorem readyOne {i : Nat} {o : Oper} {fuel : Nat} {listed : Array Bool} {a : Act} {w : World} (hr : Region.ready md l.toArray listed = [i]) (ho : l[i]? = some o)
    (h : ∀ K' : Act → World → Prop, Shut (∀ a w, S w → (S w → wpAnyH P md l.toArray Q S fuel (listed.setIfInBounds i true) a w) → K' a w) → if Region.wanted o (yielded l.toArray a.tmps) = true then Oper.wp P o a w K' Q else K' (a.put o.dst undef) w) :
    wpAnyH P md l.toArray Q S (fuel + 1) listed a w :=
  wpAnyH_ready hr (by simp) (AllReadyH.cons (by rw [List.getElem?_toArray]; exact ho) h AllReadyH.nil)
theorem readyTwo {i j : Nat} {o p : Oper} {fuel : Nat} {listed : Array Bool} {a : Act} {w : World} (hr : Region.ready md l.toArray listed = [i, j]) (ho : l[i]? = some o) (hp : l[j]? = some p)
    (h : ∀ K' : Act → World → Prop, Shut (∀ a w, S w → (S w → wpAnyH P md l.toArray Q S fuel (listed.setIfInBounds i true) a w) → K' a w) → if Region.wanted o (yielded l.toArray a.tmps) = true then Oper.wp P o a w K' Q else K' (a.put o.dst undef) w)
    (k : ∀ K' : Act → World → Prop, Shut (∀ a w, S w → (S w → wpAnyH P md l.toArray Q S fuel (listed.setIfInBounds j true) a w) → K' a w) → if Region.wanted p (yielded l.toArray a.tmps) = true then Oper.wp P p a w K' Q else K' (a.put p.dst undef) w) :
    wpAnyH P md l.toArray Q S (fuel + 1) listed a w :=
  wpAnyH_ready hr (by simp) (AllReadyH.cons (by rw [List.getElem?_toArray]; exact ho) h (AllReadyH.cons (by rw [List.getElem?_toArray]; exact hp) k AllReadyH.nil))
end
end Go.Proofs.Ytbkpekpajeaacaa
end
section
/- Package batch as it landed: Bytes. -/
namespace Go.Proofs.Ytbkpekpajeaacaa
open Go.RowKit
attribute [local go_sem] ByteArray.mk_append_mk

theorem row_eq {v : Value} {ls : List (List UInt8)} {r : List UInt8} (h : Dg.row ls = r) (w : World) (hv : TxAt w v ls) (hl : ls.length ≤ 4294967296) (ht : (Dg.texts ls).length ≤ 4294967296) :
    Calls Try.prog 66 #[v] w fun e w' => e = .returned (tx r) ∧ Below w.heap.size w w' := by subst h; exact row_any v ls w hv hl ht
theorem bnum_eq {n : Int} {l : List UInt8} (h0 : 0 ≤ n) (h1 : n ≤ 9223372036854775807) (h : Dg.num n.toNat = l) (w : World) :
    Calls Try.prog 65 #[.int .u64 n] w fun e w' => e = .returned (tx l) ∧ Below w.heap.size w w' := by
  obtain ⟨m, rfl⟩ := Int.eq_ofNat_of_zero_le h0
  subst h
  exact num_any m (by omega) w

theorem cat_run (x y : List UInt8) (h : ¬ (x.length + y.length > 9223372036854775807)) (W : World) : (Op.stringOp .add (⟨x.toArray⟩ : ByteArray) ⟨y.toArray⟩).run Try.prog W = .ok (tx (x ++ y)) W := by
  rw [run_string_add_sum (P := Try.prog) W _ _ (by simp [ByteArray.size]; omega), ByteArray.mk_append_mk]

set_option maxHeartbeats 2000000 in
theorem pbbytes (o q : Int) (v : Value) (l : List (List UInt8)) (w : World) (hv : TxAt w v l) (hl : l.length ≤ 140737488351232) :
    Calls Try.prog 64 #[batV o q v] w fun e w' => e = .returned (.tuple #[tx (Bt.bytesR (o, q, l)).1, .int .i64 (Bt.bytesR (o, q, l)).2]) ∧ Below w.heap.size w w' := by
  have hg : Below w.heap.size w (w.alloc (.cells #[.int .i64 o, .int .i64 q, v] 105)) := (Below.refl _ _).alloc (Nat.le_refl _) _
  have hmay := pbmay o q v l _ (hv.below hg) hl
  have hbx := BBox.new w o q v
  have HBX := Lib.hid hbx
  have HG := Lib.hid hg
  have HV := Lib.hid hv
  obtain ⟨av, cv, rfl⟩ := hv.len
  cases hm : Bt.may (o, q, l) with
  | false =>
    rw [Bt.bytesR_no hm]
    rw [hm] at hmay
    have HM := Lib.hid hmay
    clear hmay hm hg hv hbx
    go_enter Try.func64, Try.ntmps64
    go_wp2_with fail
    refine HM.out.mono ?_
    rintro e w1 ⟨rfl, hb⟩
    have hb2 := grow_trans HG.out (hb.mono (by simp))
    go_wp2
    go_ret2
    exact ⟨rfl, hb2⟩
  | true =>
    rw [Bt.bytesR_ok hm]
    rw [hm] at hmay
    have hmm := (Bt.may_iff _).1 hm
    simp only [] at hmm
    obtain ⟨m1, m2, m3, m4, m5, m6, m7⟩ := hmm
    have ht := Bt.texts_48 l m7
    obtain ⟨n3, hn3⟩ : ∃ n3, Dg.row l = n3 := ⟨_, rfl⟩
    have l1 : (Dg.num o.toNat).length ≤ 9 := Dg.num_len _
    have l2 : (Dg.num q.toNat).length ≤ 9 := Dg.num_len _
    have l3 : n3.length ≤ 300 := by rw [← hn3, Dg.row, List.length_append]; have := Dg.num_len l.length; omega
    have HE := Lib.hid (show Bt.bytes (o, q, l) = Dg.num o.toNat ++ (Dg.num q.toNat ++ n3) by rw [← hn3, ← List.append_assoc]; rfl)
    have b1 : ¬ ((Dg.num o.toNat).length + (Dg.num q.toNat).length > 9223372036854775807) := by omega
    have b2 : ¬ ((Dg.num o.toNat ++ Dg.num q.toNat).length + n3.length > 9223372036854775807) := by rw [List.length_append]; omega
    have e1 := fun W => cat_run (Dg.num o.toNat) (Dg.num q.toNat) b1 W
    have e2 := fun W => cat_run (Dg.num o.toNat ++ Dg.num q.toNat) n3 b2 W
    rw [List.append_assoc] at e2
    clear b1 b2
    clear l1 l2 l3
    have N3 := Lib.hid hn3
    have HM := Lib.hid hmay
    have hT := Lib.hid (show (Dg.texts l).length ≤ 4294967296 by omega)
    have wo : IntKind.u64.wrap o = o := IntWalk.u64_in _ ⟨by omega, by omega⟩
    have wq : IntKind.u64.wrap q = q := IntWalk.u64_in _ ⟨by omega, by omega⟩
    clear hmay hm hg hv hbx hn3 m7 ht
    go_enter Try.func64, Try.ntmps64
    go_wp2_with fail
    refine HM.out.mono ?_
    rintro e w1 ⟨rfl, hb⟩
    have hb2 := grow_trans HG.out (hb.mono (by simp))
    have bx1 := HBX.out.kept (hb.mono (by simp))
    obtain ⟨c0, c1, c2, _⟩ := bx1.facts
    have BX1 := Lib.hid bx1
    clear bx1 hb
    have hk := Lib.hid (show ∀ a b : World, (fun w' : World => w'.cell? ⟨w.heap.size, 0, none⟩ = some (.int .i64 o) ∧ w'.cell? ⟨w.heap.size, 1, none⟩ = some (.int .i64 q) ∧ w'.cell? ⟨w.heap.size, 2, none⟩ = some (.slice av l.length cv) ∧ Below w.heap.size w w') a → Below a.heap.size a b → (fun w' : World => w'.cell? ⟨w.heap.size, 0, none⟩ = some (.int .i64 o) ∧ w'.cell? ⟨w.heap.size, 1, none⟩ = some (.int .i64 q) ∧ w'.cell? ⟨w.heap.size, 2, none⟩ = some (.slice av l.length cv) ∧ Below w.heap.size w w') b from fun a b ⟨k0, k1, k2, kb⟩ h => ⟨below_cell h k0, below_cell h k1, below_cell h k2, grow_trans kb h⟩)
    have hS : (fun w' : World => w'.cell? ⟨w.heap.size, 0, none⟩ = some (.int .i64 o) ∧ w'.cell? ⟨w.heap.size, 1, none⟩ = some (.int .i64 q) ∧ w'.cell? ⟨w.heap.size, 2, none⟩ = some (.slice av l.length cv) ∧ Below w.heap.size w w') w1 := ⟨c0, c1, c2, hb2⟩
    have hf := Lib.hid (show ∀ n : Int, n = o ∨ n = q → ∀ W, (fun w' : World => w'.cell? ⟨w.heap.size, 0, none⟩ = some (.int .i64 o) ∧ w'.cell? ⟨w.heap.size, 1, none⟩ = some (.int .i64 q) ∧ w'.cell? ⟨w.heap.size, 2, none⟩ = some (.slice av l.length cv) ∧ Below w.heap.size w w') W → Calls Try.prog 65 #[.int .u64 n] W fun e w' => e = .returned (tx (Dg.num n.toNat)) ∧ (fun w' : World => w'.cell? ⟨w.heap.size, 0, none⟩ = some (.int .i64 o) ∧ w'.cell? ⟨w.heap.size, 1, none⟩ = some (.int .i64 q) ∧ w'.cell? ⟨w.heap.size, 2, none⟩ = some (.slice av l.length cv) ∧ Below w.heap.size w w') w' from fun n hn W h => keepB (fun w' : World => w'.cell? ⟨w.heap.size, 0, none⟩ = some (.int .i64 o) ∧ w'.cell? ⟨w.heap.size, 1, none⟩ = some (.int .i64 q) ∧ w'.cell? ⟨w.heap.size, 2, none⟩ = some (.slice av l.length cv) ∧ Below w.heap.size w w') hk.out (bnum_eq (by omega) (by omega) rfl W) h)
    have hr := Lib.hid (fun W (h : (fun w' : World => w'.cell? ⟨w.heap.size, 0, none⟩ = some (.int .i64 o) ∧ w'.cell? ⟨w.heap.size, 1, none⟩ = some (.int .i64 q) ∧ w'.cell? ⟨w.heap.size, 2, none⟩ = some (.slice av l.length cv) ∧ Below w.heap.size w w') W) => keepB (fun w' : World => w'.cell? ⟨w.heap.size, 0, none⟩ = some (.int .i64 o) ∧ w'.cell? ⟨w.heap.size, 1, none⟩ = some (.int .i64 q) ∧ w'.cell? ⟨w.heap.size, 2, none⟩ = some (.slice av l.length cv) ∧ Below w.heap.size w w') hk.out (row_eq N3.out W (HV.out.below h.2.2.2) (by omega) hT.out) h)
    clear m1 m2 m3 m4 m5 m6 N3 HV hT BX1 hb2 HBX HG HM hl
    go_wp2_with fail
    go_region_held3 (fun w' : World => w'.cell? ⟨w.heap.size, 0, none⟩ = some (.int .i64 o) ∧ w'.cell? ⟨w.heap.size, 1, none⟩ = some (.int .i64 q) ∧ w'.cell? ⟨w.heap.size, 2, none⟩ = some (.slice av l.length cv) ∧ Below w.heap.size w w')
      (first | assumption | exact hk.out _ _ hS (Below.drew (Below.refl _ _)) | exact hk.out _ _ (by assumption) ((Below.refl _ _).alloc (Nat.le_refl _) _))
      (first
        | (go_at_call 65; refine (hf.out _ (by first | exact .inl rfl | exact .inr rfl) _ (by assumption)).mono ?_; rintro e w1 ⟨rfl, kS⟩)
        | (go_at_call 66; refine (hr.out _ (by assumption)).mono ?_; rintro e w1 ⟨rfl, kS⟩))
    all_goals (go_wp2_with fail; go_ret2; exact ⟨by rw [HE.out]; rfl, (show (fun w' : World => w'.cell? ⟨w.heap.size, 0, none⟩ = some (.int .i64 o) ∧ w'.cell? ⟨w.heap.size, 1, none⟩ = some (.int .i64 q) ∧ w'.cell? ⟨w.heap.size, 2, none⟩ = some (.slice av l.length cv) ∧ Below w.heap.size w w') _ by assumption).2.2.2⟩)
end Go.Proofs.Ytbkpekpajeaacaa
end
