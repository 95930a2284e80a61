/- Does a transaction fit, in both packages. -/
import Derived.Test.YtldhkgelifmipaaDoorCutBlk
import Derived.Test.YtldhkgelifmipaaDoorKeep
namespace Ct
theorem total_take (l : List Tx) (k : Nat) (h : k < l.length) : total (l.take (k + 1)) = total (l.take k) + l[k].length := by
  rw [List.take_succ_eq_append_getElem h, total_app]; simp [total]
theorem total_le (l : List Tx) (k : Nat) : total (l.take k) ≤ total l := by
  have := total_app (l.take k) (l.drop k)
  rw [List.take_append_drop] at this
  omega
end Ct
namespace Go.Proofs.YtldhkgelifmipaaDoor
open Go.RowKit

theorem pcbytes_some (b off cap : Nat) (ls : List (List UInt8)) (w : World) (hc : ∀ i (h : i < ls.length), w.cell? ⟨b, off + i, none⟩ = some (tx ls[i])) (ht : Ct.total ls ≤ 4611686018427387904) (hl : ls.length ≤ 140737488351232) :
    Calls Tryd.prog 34 #[.slice (some ⟨b, off, none⟩) ls.length cap] w fun e w' => e = .returned (.int .i64 (Ct.total ls : Nat)) ∧ w' = w := by
  have HC := Lib.hid hc
  have HT := Lib.hid (Ct.total_take ls)
  have HL := Lib.hid (Ct.total_le ls)
  clear hc
  go_enter Tryd.func34, Tryd.ntmps34
  go_wp2_with fail
  go_loop [3, 5, 8] (fun s _ i => ∃ k : Nat, i = .int .i64 k ∧ k ≤ ls.length ∧ s = .int .i64 (Ct.total (ls.take k) : Nat)) (fun _ _ i => ls.length - (intOf i).toNat)
  case atStart => exact ⟨0, rfl, by omega, by simp [Ct.total]⟩
  case round =>
    obtain ⟨k, rfl, hk, rfl⟩ := hrel
    by_cases hlt : k < ls.length
    · have c := HC.out k hlt
      have h1 := HT.out k hlt
      have h2 := HL.out (k + 1)
      obtain ⟨t, htt⟩ : ∃ t, ls[k] = t := ⟨_, rfl⟩
      obtain ⟨T, hT⟩ : ∃ T, Ct.total (ls.take k) = T := ⟨_, rfl⟩
      rw [htt] at c h1
      rw [hT] at h1
      rw [h1] at h2
      have hw : IntKind.i64.wrap ((T : Int) + (t.length : Int)) = (T : Int) + (t.length : Int) := IntWalk.i64_in _ ⟨by omega, by omega⟩
      rw [hT]
      have H1 := Lib.hid h1
      clear htt hT h1 h2
      go_wp2
      go_round
      case rel => exact ⟨k + 1, by go_num, hlt, by rw [H1.out]; go_num⟩
      case measure => simp [intOf]; omega
    · obtain rfl : k = ls.length := by omega
      rw [List.take_length]
      go_wp2
      go_ret
      exact ⟨rfl, rfl⟩
theorem pcbytes (v : Value) (ls : List (List UInt8)) (w : World) (hv : TxAt w v ls) (ht : Ct.total ls ≤ 4611686018427387904) (hl : ls.length ≤ 140737488351232) :
    Calls Tryd.prog 34 #[v] w fun e w' => e = .returned (.int .i64 (Ct.total ls : Nat)) ∧ w' = w := by
  rcases hv with ⟨a, cap, rfl, rfl⟩ | ⟨b, off, cap, rfl, hc⟩
  · go_enter Tryd.func34, Tryd.ntmps34
    go_wp2_with fail
    refine wp_loop_rounds 1 ?_
    rw [rounds_succ]
    go_wp2
    go_ret
    exact ⟨rfl, rfl⟩
  · exact pcbytes_some b off cap ls w hc ht hl

set_option maxHeartbeats 2000000 in
theorem pcfits (v : Value) (ls : List (List UInt8)) (t : List UInt8) (w : World) (hv : TxAt w v ls) (ht : Ct.total ls ≤ 1152921504606846976) (hl : ls.length ≤ 140737488351232) (hx : t.length ≤ 140737488351232) :
    Calls Tryd.prog 19 #[v, tx t] w fun e w' => e = .returned (.bool (Ct.fits ls t)) ∧ Below w.heap.size w w' := by
  obtain ⟨a, cap, rfl⟩ := hv.len
  by_cases h0 : ls.length = 0
  · have e : ls = [] := List.length_eq_zero_iff.1 h0
    subst e
    have HF := Lib.hid (show Ct.fits [] t = true by simp [Ct.fits])
    clear hv
    go_enter Tryd.func19, Tryd.ntmps19
    go_wp2_with fail
    go_ret
    exact ⟨by rw [HF.out]; rfl, Below.refl _ _⟩
  · have hne : ls ≠ [] := fun e => h0 (by rw [e]; rfl)
    have t0 : ((ls.length : Int) == 0) = false := by rw [beq_eq_false_iff_ne]; omega
    by_cases h6 : ls.length < 6
    · have t1 : decide ((ls.length : Int) < 6) = true := by rw [decide_eq_true_iff]; omega
      have HF := Lib.hid (show Ct.fits ls t = decide (Ct.total ls + t.length ≤ 128) by simp [Ct.fits, hne, h6])
      have hb := Lib.hid (pcbytes _ ls w hv (by omega) (by omega))
      obtain ⟨T, hT⟩ : ∃ T, Ct.total ls = T := ⟨_, rfl⟩
      rw [hT] at hb HF ht
      have hg : Below w.heap.size w (w.alloc (.cells #[tx t] 9)) := (Below.refl _ _).alloc (Nat.le_refl _) _
      have hone : TxAt (w.alloc (.cells #[tx t] 9)) (.slice (some ⟨w.heap.size, 0, none⟩) 1 1) [t] := .inr ⟨w.heap.size, 0, 1, rfl, fun i hi => by
        obtain rfl : i = 0 := by simpa using hi
        simp⟩
      have hb1 := Lib.hid (show Calls Tryd.prog 34 #[.slice (some ⟨w.heap.size, 0, none⟩) 1 1] (w.alloc (.cells #[tx t] 9)) (fun e w' => e = .returned (.int .i64 (t.length : Nat)) ∧ w' = w.alloc (.cells #[tx t] 9)) by
        have h := pcbytes _ [t] _ hone (by simp [Ct.total]; omega) (by simp)
        simpa [Ct.total] using h)
      have HG := Lib.hid hg
      have hw : IntKind.i64.wrap ((T : Int) + (t.length : Int)) = (T : Int) + (t.length : Int) := IntWalk.i64_in _ ⟨by omega, by omega⟩
      have hd : decide ((T : Int) + (t.length : Int) ≤ 128) = decide (T + t.length ≤ 128) := by rw [Bool.eq_iff_iff, decide_eq_true_iff, decide_eq_true_iff]; omega
      have HD := Lib.hid hd
      clear hv hg hone hd hT hne
      go_enter Tryd.func19, Tryd.ntmps19
      go_wp2_with fail
      refine hb.out.mono ?_
      rintro e w1 ⟨rfl, rfl⟩
      go_wp2_with fail
      refine hb1.out.mono ?_
      rintro e w2 ⟨rfl, rfl⟩
      go_wp2_with fail
      go_ret
      exact ⟨by rw [HF.out, ← HD.out]; rfl, HG.out⟩
    · have t1 : decide ((ls.length : Int) < 6) = false := by rw [decide_eq_false_iff_not]; omega
      have HF := Lib.hid (show Ct.fits ls t = false by simp [Ct.fits, hne, h6])
      clear hv hne
      go_enter Tryd.func19, Tryd.ntmps19
      go_wp2_with fail
      go_ret
      exact ⟨by rw [HF.out]; rfl, Below.refl _ _⟩

set_option maxHeartbeats 2000000 in
theorem rcfits (v : Value) (ls : List (List UInt8)) (t : List UInt8) (w : World) (hv : TxAt w v ls) (ht : Ct.total ls ≤ 1152921504606846976) (hl : ls.length ≤ 140737488351232) (hx : t.length ≤ 140737488351232) :
    Calls Tryd.prog 20 #[v, tx t] w fun e w' => e = .returned (.bool (Ct.fits ls t)) ∧ Below w.heap.size w w' := by
  by_cases h0 : ls.length = 0
  · obtain ⟨a, cap, rfl⟩ := hv.len
    have e : ls = [] := List.length_eq_zero_iff.1 h0
    subst e
    have HF := Lib.hid (show Ct.fits [] t = true by simp [Ct.fits])
    clear hv
    go_enter Tryd.func20, Tryd.ntmps20
    go_wp2_with fail
    go_ret
    exact ⟨by rw [HF.out]; rfl, Below.refl _ _⟩
  · have hne : ls ≠ [] := fun e => h0 (by rw [e]; rfl)
    have t0 : ((ls.length : Int) == 0) = false := by rw [beq_eq_false_iff_ne]; omega
    rcases hv with ⟨_, _, _, rfl⟩ | ⟨b, off, cap, rfl, hc⟩
    · simp at h0
    by_cases h6 : ls.length < 6
    · have t1 : decide ((6 : Int) ≤ (ls.length : Int)) = false := by rw [decide_eq_false_iff_not]; omega
      have HF := Lib.hid (show Ct.fits ls t = decide (Ct.total ls + t.length ≤ 128) by simp [Ct.fits, hne, h6])
      by_cases hb : t.length ≤ 128
      · have t2 : decide ((128 : Int) < (t.length : Int)) = false := by rw [decide_eq_false_iff_not]; omega
        have HC := Lib.hid hc
        have HT := Lib.hid (Ct.total_take ls)
        have HL := Lib.hid (Ct.total_le ls)
        clear hc hne
        go_enter Tryd.func20, Tryd.ntmps20
        go_wp2_with fail
        go_loop [5, 6] (fun s i => ∃ k : Nat, i = .int .i64 k ∧ k ≤ ls.length ∧ s = .int .i64 (t.length + Ct.total (ls.take k) : Nat)) (fun _ i => ls.length - (intOf i).toNat)
        case atStart => exact ⟨0, rfl, by omega, by simp [Ct.total]⟩
        case round =>
          obtain ⟨k, rfl, hk, rfl⟩ := hrel
          by_cases hlt : k < ls.length
          · have c := HC.out k hlt
            have h1 := HT.out k hlt
            have h2 := HL.out (k + 1)
            obtain ⟨y, hy⟩ : ∃ t, ls[k] = t := ⟨_, rfl⟩
            obtain ⟨T, hT⟩ : ∃ T, Ct.total (ls.take k) = T := ⟨_, rfl⟩
            rw [hy] at c h1
            rw [hT] at h1
            rw [h1] at h2
            rw [hT]
            by_cases hbig : 128 < y.length
            · have t3 : decide ((128 : Int) < (y.length : Int)) = true := by rw [decide_eq_true_iff]; omega
              have HFF := Lib.hid (show Ct.fits ls t = false by rw [HF.out, decide_eq_false_iff_not]; omega)
              clear hy hT h1 h2 hbig
              go_wp2
              go_ret
              exact ⟨by rw [HFF.out]; rfl, Below.refl _ _⟩
            · have t3 : decide ((128 : Int) < (y.length : Int)) = false := by rw [decide_eq_false_iff_not]; omega
              have hw : IntKind.i64.wrap ((t.length + T : Nat) + (y.length : Int)) = ((t.length + T : Nat) : Int) + (y.length : Int) := IntWalk.i64_in _ ⟨by omega, by omega⟩
              obtain ⟨Q, hQ⟩ : ∃ Q, t.length + T = Q := ⟨_, rfl⟩
              have hQ2 : t.length + Ct.total (ls.take (k + 1)) = Q + y.length := by rw [h1]; omega
              rw [hQ] at hw ⊢
              have H1 := Lib.hid hQ2
              clear hy hT h1 h2 hbig hQ hQ2
              go_wp2
              go_round
              case rel => exact ⟨k + 1, by go_num, hlt, by rw [H1.out]; go_num⟩
              case measure => simp [intOf]; omega
          · obtain rfl : k = ls.length := by omega
            rw [List.take_length]
            have HD := Lib.hid (show decide (((t.length + Ct.total ls : Nat) : Int) ≤ 128) = decide (Ct.total ls + t.length ≤ 128) by rw [Bool.eq_iff_iff, decide_eq_true_iff, decide_eq_true_iff]; omega)
            obtain ⟨Q, hQ⟩ : ∃ Q, t.length + Ct.total ls = Q := ⟨_, rfl⟩
            rw [hQ] at HD ⊢
            clear hQ
            go_wp2
            go_ret
            exact ⟨by rw [HF.out, ← HD.out]; rfl, Below.refl _ _⟩
      · have t2 : decide ((128 : Int) < (t.length : Int)) = true := by rw [decide_eq_true_iff]; omega
        have HFF := Lib.hid (show Ct.fits ls t = false by rw [HF.out, decide_eq_false_iff_not]; omega)
        clear hc hne hb
        go_enter Tryd.func20, Tryd.ntmps20
        go_wp2_with fail
        go_ret
        exact ⟨by rw [HFF.out]; rfl, Below.refl _ _⟩
    · have t1 : decide ((6 : Int) ≤ (ls.length : Int)) = true := by rw [decide_eq_true_iff]; omega
      have HF := Lib.hid (show Ct.fits ls t = false by simp [Ct.fits, hne, h6])
      clear hc hne
      go_enter Tryd.func20, Tryd.ntmps20
      go_wp2_with fail
      go_ret
      exact ⟨by rw [HF.out]; rfl, Below.refl _ _⟩
end Go.Proofs.YtldhkgelifmipaaDoor
