/- The contracts of the document's answer of layer 6: Same, By, All. -/
import Derived.Test.YtpodccgaigkalaaBookRef2
namespace Go.Proofs.Ytpodccgaigkalaa
open Go.RowKit

set_option maxHeartbeats 1000000 in
theorem rbsame_any (va vb : Value) (a b : List Bk.Sl) (w : World) (ha : FlatAt w va 2 (seals a)) (hb : FlatAt w vb 2 (seals b)) (la : a.length ≤ 140737488351232) :
    Calls Try.prog 11 #[va, vb] w fun e w' => e = .returned (.bool (decide (a = b))) ∧ ∃ n, w' = w.drewN n := by
  by_cases hl : a.length = b.length
  · rcases flat_seals ha (Below.refl _ _) with ⟨rfl, aa, ca, rfl⟩ | ⟨h0, ba, oa, ca, rfl, hca⟩
    · obtain rfl : b = [] := List.length_eq_zero_iff.1 (by rw [← hl]; rfl)
      obtain ⟨ab, cb, rfl⟩ := hb.len (n := 0) (by simp [seals]) (by omega)
      go_enter Try.func11, Try.ntmps11
      go_wp2_with fail
      refine wp_loop_rounds 1 ?_
      rw [rounds_succ]
      go_wp2
      go_ret
      exact ⟨rfl, 0, rfl⟩
    · rcases flat_seals hb (Below.refl _ _) with ⟨rfl, _⟩ | ⟨_, bb, ob, cb, rfl, hcb⟩
      · rw [hl] at h0; simp at h0
      rw [← hl]
      obtain ⟨n, hn⟩ : ∃ n, a.length = n := ⟨_, rfl⟩
      have HA := Lib.hid hca
      have HB := Lib.hid hcb
      have HN := Lib.hid hn
      have HL := Lib.hid hl
      rw [hn] at la ⊢
      clear hca hcb hn hl h0 ha hb
      go_enter Try.func11, Try.ntmps11
      go_wp2_with fail
      go_loopw [5] (fun i wr => ∃ k : Nat, i = .int .i64 k ∧ k ≤ n ∧ a.take k = b.take k ∧ ∃ q, wr = w.drewN q) (fun i _ => n - (intOf i).toNat)
      case atStart => exact ⟨0, rfl, by omega, by simp, 0, rfl⟩
      case round =>
        obtain ⟨k, rfl, hk, ht, q, rfl⟩ := hrel
        have HT := Lib.hid ht
        clear ht
        by_cases hlt : k < n
        · have hka : k < a.length := by rw [HN.out]; exact hlt
          have hkb : k < b.length := by rw [← HL.out]; exact hka
          obtain ⟨ca1, ca2⟩ := HA.out k hka
          obtain ⟨cb1, cb2⟩ := HB.out k hkb
          obtain ⟨y, hy⟩ : ∃ y, a[k] = y := ⟨_, rfl⟩
          obtain ⟨y', hy'⟩ : ∃ y, b[k] = y := ⟨_, rfl⟩
          rw [hy] at ca1 ca2
          rw [hy'] at cb1 cb2
          obtain ⟨z, u⟩ := y
          obtain ⟨z', u'⟩ := y'
          simp only [iv] at ca1 ca2 cb1 cb2
          have HY := Lib.hid hy
          have HZ := Lib.hid hy'
          clear hy hy'
          have differ : ¬ ((z, u) : Bk.Sl) = (z', u') → decide (a = b) = false := by
            intro hne
            rw [decide_eq_false_iff_not]
            intro e
            subst e
            exact hne (HY.out.symm.trans HZ.out)
          have HD := Lib.hid differ
          clear differ
          by_cases hz : z = z'
          · by_cases hu : u = u'
            · subst hz hu
              go_wp2
              go_quiet (fail)
              go_wp2
              go_roundw
              case rel => exact ⟨k + 1, by go_num, hlt, by rw [List.take_succ_eq_append_getElem hka, List.take_succ_eq_append_getElem hkb, HT.out, HY.out, HZ.out], _, rfl⟩
              case measure => simp [intOf]; omega
            · have HM := Lib.hid (HD.out fun e => hu (congrArg Prod.snd e))
              go_wp2
              go_quiet (fail)
              go_wp2
              go_ret
              exact ⟨by rw [HM.out]; rfl, drewN_ex ⟨_, rfl⟩ _⟩
          · have HM := Lib.hid (HD.out fun e => hz (congrArg Prod.fst e))
            go_wp2
            go_quiet (fail)
            go_wp2
            go_ret
            exact ⟨by rw [HM.out]; rfl, drewN_ex ⟨_, rfl⟩ _⟩
        · obtain rfl : k = n := by omega
          have hf : decide (a = b) = true := by
            have := HT.out
            rw [← HN.out, List.take_length, HL.out, List.take_length] at this
            exact decide_eq_true this
          have HF := Lib.hid hf
          clear hf
          go_wp2
          go_ret
          exact ⟨by rw [HF.out]; rfl, _, rfl⟩
  · have hf : decide (a = b) = false := decide_eq_false fun e => hl (by rw [e])
    have HF := Lib.hid hf
    obtain ⟨aa, ca, rfl⟩ := ha.len (n := a.length) (seals_len a) (by omega)
    obtain ⟨ab, cb, rfl⟩ := hb.len (n := b.length) (seals_len b) (by omega)
    have hx : ((a.length : Int) != (b.length : Int)) = true := by rw [bne_iff_ne]; omega
    clear hf hl ha hb
    go_enter Try.func11, Try.ntmps11
    go_wp2_with fail
    go_ret
    exact ⟨by rw [HF.out]; rfl, 0, rfl⟩
end Go.Proofs.Ytpodccgaigkalaa
