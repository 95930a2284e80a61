/- The document's Same of votes. -/
import Derived.Test.YtjngjmhhfhkbkaaVoteRef
import Derived.Laws.StructEq
namespace Go.Proofs.Ytjngjmhhfhkbkaa
open Go.RowKit

/-- Two ballots are the same where their fields are. -/
@[go_sem] theorem eq_ballot (x r x' r' : Int) (t t' : List UInt8) (w : World) : (Op.equalIn 10000 24 (.agg #[.int .i64 x, .int .i64 r, tx t]) (.agg #[.int .i64 x', .int .i64 r', tx t'])).run Try.prog w = .ok (x == x' && (r == r' && t == t')) w := by
  have hS : Try.prog.underlying 24 = some (.struct (Try.prog.fieldsOf 24)) := by kernel_rfl
  have hp : Try.prog.stoodInHeld 24 = false := by kernel_rfl
  have u1 := Try.underlying3
  have u2 := Try.underlying9
  rw [show (10000 : Nat) = 9999 + 1 from rfl, run_equalIn_agg w 9999 24 _ _ hS hp]
  simp only [Program.fieldsOf, Try.underlying24]
  go_simp
  by_cases h1 : x = x' <;> by_cases h2 : r = r' <;> by_cases h3 : t = t' <;> simp [h1, h2, h3]
@[go_sem] theorem guard_ballot (op : BinOp) (o1 o2 : Operand) (xs ys : Array Value) (w : World) : (eqGuard op 24 o1 o2 (.agg xs) (.agg ys)).run Try.prog w = .ok () w := run_eqGuard_agg w op 24 o1 o2 xs ys (by kernel_rfl)

set_option maxHeartbeats 1000000 in
theorem rvsame (va vb : Value) (a b : List Vt.Bl) (w : World) (ha : FlatAt w va 3 (ballots a)) (hb : FlatAt w vb 3 (ballots b)) (la : a.length ≤ 140737488351232) :
    Calls Try.prog 12 #[va, vb] w fun e w' => e = .returned (.bool (decide (a = b))) ∧ ∃ n, w' = w.drewN n := by
  by_cases hl : a.length = b.length
  · rcases flat_ballots ha (Below.refl _ _) with ⟨rfl, aa, ca, rfl⟩ | ⟨h0, ba, oa, ca, rfl, hca⟩
    · obtain rfl : b = [] := List.length_eq_zero_iff.1 (by rw [← hl]; rfl)
      obtain ⟨ab, cb, rfl⟩ := hb.len (n := 0) (by simp [ballots]) (by omega)
      go_enter Try.func12, Try.ntmps12
      go_wp2_with fail
      refine wp_loop_rounds 1 ?_
      rw [rounds_succ]
      go_wp2
      go_ret
      exact ⟨rfl, 0, rfl⟩
    · rcases flat_ballots hb (Below.refl _ _) with ⟨rfl, _⟩ | ⟨_, bb, ob, cb, rfl, hcb⟩
      · rw [hl] at h0; simp at h0
      rw [← hl]
      obtain ⟨n, hn⟩ : ∃ n, a.length = n := ⟨_, rfl⟩
      have HA := Lib.hid hca
      have HB := Lib.hid hcb
      have HN := Lib.hid hn
      have HL := Lib.hid hl
      rw [hn] at la ⊢
      clear hca hcb hn hl h0 ha hb
      go_enter Try.func12, Try.ntmps12
      go_wp2_with fail
      go_loopw [5] (fun i wr => ∃ k : Nat, i = .int .i64 k ∧ k ≤ n ∧ a.take k = b.take k ∧ ∃ q, wr = w.drewN q) (fun i _ => n - (intOf i).toNat)
      case atStart => exact ⟨0, rfl, by omega, by simp, 0, rfl⟩
      case round =>
        obtain ⟨k, rfl, hk, ht, q, rfl⟩ := hrel
        have HT := Lib.hid ht
        clear ht
        by_cases hlt : k < n
        · have hka : k < a.length := by rw [HN.out]; exact hlt
          have hkb : k < b.length := by rw [← HL.out]; exact hka
          obtain ⟨ca1, ca2, ca3⟩ := HA.out k hka
          obtain ⟨cb1, cb2, cb3⟩ := HB.out k hkb
          obtain ⟨y, hy⟩ : ∃ y, a[k] = y := ⟨_, rfl⟩
          obtain ⟨y', hy'⟩ : ∃ y, b[k] = y := ⟨_, rfl⟩
          rw [hy] at ca1 ca2 ca3
          rw [hy'] at cb1 cb2 cb3
          obtain ⟨z, p, u⟩ := y
          obtain ⟨z', p', u'⟩ := y'
          simp only [iv] at ca1 ca2 ca3 cb1 cb2 cb3
          have HY := Lib.hid hy
          have HZ := Lib.hid hy'
          clear hy hy'
          have differ : ¬ ((z, p, u) : Vt.Bl) = (z', p', u') → decide (a = b) = false := by
            intro hne
            rw [decide_eq_false_iff_not]
            intro e
            subst e
            exact hne (HY.out.symm.trans HZ.out)
          have HD := Lib.hid differ
          clear differ
          by_cases hz : z = z'
          · by_cases hp : p = p'
            · by_cases hu : u = u'
              · subst hz hp hu
                go_wp2
                go_quiet (fail)
                go_wp2
                go_roundw
                case rel => exact ⟨k + 1, by go_num, hlt, by rw [List.take_succ_eq_append_getElem hka, List.take_succ_eq_append_getElem hkb, HT.out, HY.out, HZ.out], _, rfl⟩
                case measure => simp [intOf]; omega
              · have HM := Lib.hid (HD.out fun e => hu (congrArg (fun y => y.2.2) e))
                go_wp2
                go_quiet (fail)
                go_wp2
                go_ret
                exact ⟨by rw [HM.out]; rfl, drewN_ex ⟨_, rfl⟩ _⟩
            · have HM := Lib.hid (HD.out fun e => hp (congrArg (fun y => y.2.1) e))
              go_wp2
              go_quiet (fail)
              go_wp2
              go_ret
              exact ⟨by rw [HM.out]; rfl, drewN_ex ⟨_, rfl⟩ _⟩
          · have HM := Lib.hid (HD.out fun e => hz (congrArg Prod.fst e))
            go_wp2
            go_quiet (fail)
            go_wp2
            go_ret
            exact ⟨by rw [HM.out]; rfl, drewN_ex ⟨_, rfl⟩ _⟩
        · obtain rfl : k = n := by omega
          have hf : decide (a = b) = true := by
            have := HT.out
            rw [← HN.out, List.take_length, HL.out, List.take_length] at this
            exact decide_eq_true this
          have HF := Lib.hid hf
          clear hf
          go_wp2
          go_ret
          exact ⟨by rw [HF.out]; rfl, _, rfl⟩
  · have hf : decide (a = b) = false := decide_eq_false fun e => hl (by rw [e])
    have HF := Lib.hid hf
    obtain ⟨aa, ca, rfl⟩ := ha.len (n := a.length) (ballots_len a) (by omega)
    obtain ⟨ab, cb, rfl⟩ := hb.len (n := b.length) (ballots_len b) (by omega)
    have hx : ((a.length : Int) != (b.length : Int)) = true := by rw [bne_iff_ne]; omega
    clear hf hl ha hb
    go_enter Try.func12, Try.ntmps12
    go_wp2_with fail
    go_ret
    exact ⟨by rw [HF.out]; rfl, 0, rfl⟩
end Go.Proofs.Ytjngjmhhfhkbkaa
