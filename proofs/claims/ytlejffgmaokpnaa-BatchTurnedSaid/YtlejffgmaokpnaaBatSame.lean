/- Package batch as it landed, and the document's: Same, Bytes. -/
import Derived.Test.YtlejffgmaokpnaaBatRTake
import Derived.Test.YtlejffgmaokpnaaDigSame
import Derived.Test.YtlejffgmaokpnaaKeep
namespace Go.Proofs.Ytlejffgmaokpnaa
open Go.RowKit

set_option maxHeartbeats 1000000 in
theorem pequal (va vb : Value) (a b : List (List UInt8)) (w : World) (ha : TxAt w va a) (hb : TxAt w vb b) (la : a.length ≤ 140737488351232) :
    Calls Try.prog 21 #[va, vb] w fun e w' => e = .returned (.bool (a == b)) ∧ Below w.heap.size w w' := by
  by_cases hl : a.length = b.length
  · have LB := Lib.hid hl.symm
    rcases ha with ⟨aa, ca, rfl, rfl⟩ | ⟨ba, oa, ca, rfl, ha⟩
    · obtain rfl := List.length_eq_zero_iff.1 (show b.length = 0 by rw [← hl]; rfl)
      obtain ⟨ab, cb, rfl⟩ := hb.len
      clear hb hl
      go_enter Try.func21, Try.ntmps21
      go_wp2_with fail
      refine wp_loop_rounds 1 ?_
      rw [rounds_succ]
      go_wp2
      go_ret
      exact ⟨rfl, Below.refl _ _⟩
    rcases hb with ⟨ab, cb, rfl, rfl⟩ | ⟨bb, ob, cb, rfl, hb⟩
    · obtain rfl := List.length_eq_zero_iff.1 (show a.length = 0 by rw [hl]; rfl)
      clear ha hl
      go_enter Try.func21, Try.ntmps21
      go_wp2_with fail
      refine wp_loop_rounds 1 ?_
      rw [rounds_succ]
      go_wp2
      go_ret
      exact ⟨rfl, Below.refl _ _⟩
    rw [← hl]
    have HA := Lib.hid ha
    have HB := Lib.hid hb
    clear ha hb hl
    obtain ⟨n, hn⟩ : ∃ n, a.length = n := ⟨_, rfl⟩
    rw [hn] at la ⊢
    have LA := Lib.hid hn
    clear hn
    go_enter Try.func21, Try.ntmps21
    go_wp2_with fail
    go_loopw [5, 13] (fun _ i wr => ∃ k : Nat, i = .int .i64 k ∧ k ≤ n ∧ a.take k = b.take k ∧ Below w.heap.size w wr) (fun _ i _ => n - (intOf i).toNat)
    case atStart => exact ⟨0, rfl, by omega, by simp, Below.refl _ _⟩
    case round =>
      obtain ⟨k, rfl, hk, ht, hbel⟩ := hrel
      have HT := Lib.hid ht
      have HBL := Lib.hid hbel
      clear ht hbel
      by_cases hlt : k < n
      · have hka : k < a.length := by rw [LA.out]; exact hlt
        have hkb : k < b.length := by rw [LB.out, LA.out]; exact hlt
        have ca := below_cell HBL.out (HA.out k hka)
        have cb := below_cell HBL.out (HB.out k hkb)
        by_cases he : a[k] = b[k]
        · have HE := Lib.hid he
          have hx : (a[k] == b[k]) = true := by rw [he]; simp
          clear he
          go_wp2
          go_quiet (fail)
          go_wp2
          go_roundw
          case rel => exact ⟨k + 1, by go_num, hlt, by rw [List.take_succ_eq_append_getElem hka, List.take_succ_eq_append_getElem hkb, HT.out, HE.out], below_drewN HBL.out _⟩
          case measure => simp [intOf]; omega
        · have hx : (a[k] == b[k]) = false := by rw [beq_eq_false_iff_ne]; exact he
          have hf : (a == b) = false := by
            rw [beq_eq_false_iff_ne]
            intro e
            subst e
            exact he rfl
          have HF := Lib.hid hf
          clear he hf
          go_wp2
          go_quiet (fail)
          go_wp2
          go_ret
          exact ⟨by rw [HF.out]; rfl, below_drewN HBL.out _⟩
      · obtain rfl : k = n := by omega
        have hf : (a == b) = true := by
          rw [beq_iff_eq]
          have e := HT.out
          rwa [List.take_of_length_le (by rw [LA.out]; omega), List.take_of_length_le (by rw [LB.out, LA.out]; omega)] at e
        have HF := Lib.hid hf
        clear hf
        go_wp2
        go_ret
        exact ⟨by rw [HF.out]; rfl, HBL.out⟩
  · obtain ⟨aa, ca, rfl⟩ := ha.len
    obtain ⟨ab, cb, rfl⟩ := hb.len
    have hne : ((a.length : Int) != (b.length : Int)) = true := by rw [bne_iff_ne]; omega
    have hf : (a == b) = false := by rw [beq_eq_false_iff_ne]; intro e; exact hl (by rw [e])
    have HF := Lib.hid hf
    clear ha hb hl hf
    go_enter Try.func21, Try.ntmps21
    go_wp2
    go_ret
    exact ⟨by rw [HF.out]; rfl, Below.refl _ _⟩

theorem bt_beq (a b : Bt.Bat) : (a == b) = ((a.1 == b.1) && ((a.2.1 == b.2.1) && (a.2.2 == b.2.2))) := rfl

set_option maxHeartbeats 2000000 in
theorem rbsame (o q o' q' : Int) (va vb : Value) (a b : List (List UInt8)) (w : World) (ha : TxAt w va a) (hb : TxAt w vb b) (la : a.length ≤ 140737488351232) :
    Calls Try.prog 11 #[batV o q va, batV o' q' vb] w fun e w' => e = .returned (.bool (((o, q, a) : Bt.Bat) == (o', q', b))) ∧ Below w.heap.size w w' := by
  rw [bt_beq]
  have hg : Below w.heap.size w ((w.alloc (.cells #[.int .i64 o, .int .i64 q, va] 25)).alloc (.cells #[.int .i64 o', .int .i64 q', vb] 25)) := ((Below.refl _ _).alloc (Nat.le_refl _) _).alloc (by simp) _
  have hsame := same_any va vb a b _ (ha.below hg) (hb.below hg) la
  obtain ⟨aa, ca, rfl⟩ := ha.len
  obtain ⟨ab, cb, rfl⟩ := hb.len
  generalize (a == b) = r at *
  have HS := Lib.hid hsame
  have HG := Lib.hid hg
  clear hsame hg ha hb
  cases r with
  | false =>
    simp only [Bool.and_false]
    go_enter Try.func11, Try.ntmps11
    go_wp2_with fail
    refine HS.out.mono ?_
    rintro e w1 ⟨rfl, k, rfl⟩
    go_wp2
    go_ret
    exact ⟨rfl, below_drewN HG.out _⟩
  | true =>
    simp only [Bool.and_true]
    by_cases h1 : o = o'
    · subst h1
      by_cases h2 : q = q'
      · subst h2
        simp only [beq_self_eq_true, Bool.and_self]
        go_enter Try.func11, Try.ntmps11
        go_wp2_with fail
        refine HS.out.mono ?_
        rintro e w1 ⟨rfl, k, rfl⟩
        go_wp2
        go_ret
        exact ⟨rfl, below_drewN HG.out _⟩
      · have t2 : (q == q') = false := beq_eq_false_iff_ne.2 h2
        simp only [t2, Bool.and_false]
        clear h2
        go_enter Try.func11, Try.ntmps11
        go_wp2_with fail
        refine HS.out.mono ?_
        rintro e w1 ⟨rfl, k, rfl⟩
        go_wp2
        go_ret
        exact ⟨rfl, below_drewN HG.out _⟩
    · have t1 : (o == o') = false := beq_eq_false_iff_ne.2 h1
      simp only [t1, Bool.false_and]
      clear h1
      go_enter Try.func11, Try.ntmps11
      go_wp2_with fail
      refine HS.out.mono ?_
      rintro e w1 ⟨rfl, k, rfl⟩
      go_wp2
      go_ret
      exact ⟨rfl, below_drewN HG.out _⟩

set_option maxHeartbeats 2000000 in
theorem pbsame (o q o' q' : Int) (va vb : Value) (a b : List (List UInt8)) (w : World) (ha : TxAt w va a) (hb : TxAt w vb b) (la : a.length ≤ 140737488351232) :
    Calls Try.prog 12 #[batV o q va, batV o' q' vb] w fun e w' => e = .returned (.bool (((o, q, a) : Bt.Bat) == (o', q', b))) ∧ Below w.heap.size w w' := by
  rw [bt_beq]
  have hg : Below w.heap.size w ((w.alloc (.cells #[.int .i64 o, .int .i64 q, va] 25)).alloc (.cells #[.int .i64 o', .int .i64 q', vb] 25)) := ((Below.refl _ _).alloc (Nat.le_refl _) _).alloc (by simp) _
  have hsame := pequal va vb a b _ (ha.below hg) (hb.below hg) la
  obtain ⟨aa, ca, rfl⟩ := ha.len
  obtain ⟨ab, cb, rfl⟩ := hb.len
  generalize (a == b) = r at *
  have HS := Lib.hid hsame
  have HG := Lib.hid hg
  clear hsame hg ha hb
  by_cases h1 : o = o'
  · subst h1
    by_cases h2 : q = q'
    · subst h2
      simp only [beq_self_eq_true, Bool.true_and]
      go_enter Try.func12, Try.ntmps12
      go_wp2_with fail
      refine HS.out.mono ?_
      rintro e w1 ⟨rfl, hb⟩
      have hb2 := grow_trans HG.out (hb.mono (by simp))
      clear hb
      cases r with
      | true =>
        go_wp2
        go_ret
        exact ⟨rfl, hb2⟩
      | false =>
        go_wp2
        go_ret
        exact ⟨rfl, hb2⟩
    · have t2 : (q == q') = false := beq_eq_false_iff_ne.2 h2
      simp only [t2, Bool.false_and, Bool.and_false]
      clear h2
      go_enter Try.func12, Try.ntmps12
      go_wp2
      go_ret
      exact ⟨rfl, HG.out⟩
  · have t1 : (o == o') = false := beq_eq_false_iff_ne.2 h1
    simp only [t1, Bool.false_and]
    clear h1
    go_enter Try.func12, Try.ntmps12
    go_wp2
    go_ret
    exact ⟨rfl, HG.out⟩

theorem row_eq {v : Value} {ls : List (List UInt8)} {r : List UInt8} (h : Dg.row ls = r) (w : World) (hv : TxAt w v ls) (hl : ls.length ≤ 4294967296) (ht : (Dg.texts ls).length ≤ 4294967296) :
    Calls Try.prog 23 #[v] w fun e w' => e = .returned (tx r) ∧ Below w.heap.size w w' := by subst h; exact row_any v ls w hv hl ht
theorem bnum_eq {n : Int} {l : List UInt8} (h0 : 0 ≤ n) (h1 : n ≤ 9223372036854775807) (h : Dg.num n.toNat = l) (w : World) :
    Calls Try.prog 22 #[.int .u64 n] w fun e w' => e = .returned (tx l) ∧ Below w.heap.size w w' := by
  obtain ⟨m, rfl⟩ := Int.eq_ofNat_of_zero_le h0
  subst h
  exact num_any m (by omega) w

end Go.Proofs.Ytlejffgmaokpnaa
