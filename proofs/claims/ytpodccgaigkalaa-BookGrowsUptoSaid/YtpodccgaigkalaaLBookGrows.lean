/- BookGrows: the walk. -/
import Derived.Test.YtpodccgaigkalaaLBookOrder
namespace Go.Proofs.Ytpodccgaigkalaa
open Go.RowKit Go.ChangeShapes Go.WideShapes Go.ChangeAt

set_option maxHeartbeats 4000000 in
theorem bookGrows_core (v0 v1 : Value) (b l : List Bk.Sl) (x : Nat) (t : List UInt8) (W : World) (hv0 : BookAt W v0 b) (hv1 : BookAt W v1 l) (hl : b.length + l.length ≤ 1048576) (hx : x < 18446744073709551616) :
    Calls Try.prog 7 #[.agg #[v0, v1, .int .u64 x, tx t]] W fun e W' => e = .returned (.bool true) ∧ Below W.heap.size W W' := by
  have hst := Bk.puts_step l b
  have hln : ∀ k, (Bk.puts b (l.take k)).length ≤ 1048576 := fun k => by
    have := Bk.puts_len (l.take k) b
    rw [List.length_take] at this
    omega
  obtain ⟨A, hA⟩ : ∃ A, Bk.all b x t = A := ⟨_, rfl⟩
  obtain ⟨B, hB⟩ : ∃ B, Bk.by' b t = B := ⟨_, rfl⟩
  have hfin : Bk.all b x t = true → Bk.all (Bk.puts b l) x t = true := Bk.all_grows _ _ _ _ fun y hy => (Bk.puts_mem l b y).mpr (.inl hy)
  have hby : Bk.by' b t &&& Bk.by' (Bk.puts b l) t = Bk.by' b t := Bk.by_grows _ _ _ fun y hy => (Bk.puts_mem l b y).mpr (.inl hy)
  obtain ⟨C, hC⟩ : ∃ C, Bk.by' (Bk.puts b l) t = C := ⟨_, rfl⟩
  have hB64 : B < 18446744073709551616 := by rw [← hB]; exact Bk.byTo_lt _ _ 64 (by omega)
  have hC64 : C < 18446744073709551616 := by rw [← hC]; exact Bk.byTo_lt _ _ 64 (by omega)
  have hand : bits .and .u64 (B : Int) (C : Int) = (B : Int) := by rw [u64_and_nat B C hB64 hC64, ← hB, ← hC, hby]
  have HST := Lib.hid hst
  have HLN := Lib.hid hln
  have HA := Lib.hid hA
  have HB := Lib.hid hB
  have HC := Lib.hid hC
  have HF := Lib.hid hfin
  have HV0 := Lib.hid hv0
  have HV1 := Lib.hid hv1
  have HAND := Lib.hid hand
  have g0 : Below W.heap.size W (W.alloc (.cells #[v0, v1, .int .u64 x, tx t] 34)) := (Below.refl _ _).alloc (Nat.le_refl _) _
  have GR := Lib.hid g0
  obtain ⟨a1, c1, rfl⟩ := hv1.len
  obtain ⟨a0, c0, rfl⟩ := hv0.len
  clear hst hln hA hB hC hfin hby hv0 hand g0 hB64 hC64
  go_enter Try.func7, Try.ntmps7
  go_wp2_with fail
  refine (bkShown _).mono ?_
  rintro e w1 ⟨rfl, h1⟩
  have g1 := GR.out.trans (h1.mono (by simp))
  go_wp2_with fail
  refine (pall_eq HA.out _ (HV0.out.below g1).flat (by omega) hx).mono ?_
  rintro e w2 ⟨rfl, h2⟩
  have g2 := grow_trans g1 h2
  go_wp2_with fail
  refine (pby_eq HB.out _ (HV0.out.below g2).flat (by omega)).mono ?_
  rintro e w3 ⟨rfl, h3⟩
  have g3 := grow_trans g2 h3
  have G3 := Lib.hid g3
  clear h1 g1 h2 g2 h3 g3
  go_wp2_with fail
  go_loopw [3, 10] (fun y i wr => ∃ k : Nat, i = .int .i64 k ∧ k ≤ l.length ∧ BookAt wr y (Bk.puts b (l.take k)) ∧ Below W.heap.size W wr) (fun _ i _ => l.length - (intOf i).toNat)
  case atStart => exact ⟨0, rfl, by omega, by simpa [Bk.puts] using HV0.out.below G3.out, G3.out⟩
  case round =>
    obtain ⟨k, rfl, hk, hy, hbel⟩ := hrel
    have HY := Lib.hid hy
    have HBL := Lib.hid hbel
    clear hy hbel
    by_cases hlt : k < l.length
    · rcases HV1.out with ⟨_, _, e⟩ | ⟨bb, off, cap, e, _, _, hc⟩
      · exact absurd hlt (by rw [e]; simp)
      · simp only [Value.slice.injEq, true_and] at e
        obtain ⟨rfl, rfl⟩ := e
        obtain ⟨c1', c2'⟩ := hc k hlt
        have q1 := below_cell HBL.out c1'
        have q2 := below_cell HBL.out c2'
        have hs1 := HST.out k hlt
        obtain ⟨s, es⟩ : ∃ s, l[k] = s := ⟨_, rfl⟩
        rw [es] at q1 q2 hs1
        have HS1 := Lib.hid hs1.symm
        have l1 := HLN.out k
        clear hs1 c1' c2' es hc
        go_wp2_with fail
        refine (pput_eq HS1.out _ HY.out (by omega)).mono ?_
        rintro e w4 ⟨p, rfl, hp, h4⟩
        have HP := Lib.hid hp
        have g4 := grow_trans HBL.out h4
        clear hp q1 q2
        go_wp2_with fail
        go_roundw
        case rel => exact ⟨k + 1, by go_num, hlt, HP.out, g4⟩
        case measure => simp [intOf]; omega
    · obtain rfl : k = l.length := by omega
      have l1 := HLN.out l.length
      rw [List.take_length] at HY l1
      cases A with
      | false =>
        have hand := HAND.out
        go_wp2_with fail
        refine (pby_eq HC.out _ HY.out.flat (by omega)).mono ?_
        rintro e w5 ⟨rfl, h5⟩
        have g5 := grow_trans HBL.out h5
        go_wp2_with fail
        go_ret
        exact ⟨rfl, g5⟩
      | true =>
        have hand := HAND.out
        go_wp2_with fail
        refine (pall_eq (HF.out HA.out) _ HY.out.flat (by omega) hx).mono ?_
        rintro e w4 ⟨rfl, h4⟩
        have g4 := grow_trans HBL.out h4
        go_wp2_with fail
        refine (pby_eq HC.out _ (HY.out.below h4).flat (by omega)).mono ?_
        rintro e w5 ⟨rfl, h5⟩
        have g5 := grow_trans g4 h5
        go_wp2_with fail
        go_ret
        exact ⟨rfl, g5⟩

theorem bookGrows_walk {H : Type} (enc : TypeId × Value → H) (W : World) (base : Nat) (v0 : Value) (d0 : DataW H) (p0 : List MemPlace)
    (h0 : DataW.Trod enc Try.prog W 0 (fun _ => true) true 34 v0 d0 p0) (o0 : Value.okWide Try.prog W .any base 34 v0)
    (_hsz : (DataW.weightsEach Try.prog [34] [d0]).all (· ≤ reachBytes) = true) (hk : Rows.uptoSmall H [d0] = true) :
    Calls Try.prog 7 #[v0] W fun e W' => e = .returned (.bool true) ∧ Below W.heap.size W W' := by
  obtain ⟨a0, a1, a2, a3, y0, y1, y2, y3, n, rfl, rfl, _, e0, e1, e2, e3⟩ := Joins.open_agg4 Try.underlying34 (by kernel_rfl) (by kernel_rfl) o0 h0
  obtain ⟨b, hb, lb⟩ := trod_seals Try.underlying22 e0
  obtain ⟨l, hl, ll⟩ := trod_seals Try.underlying22 e1
  obtain ⟨x, hx, rfl, rfl⟩ := trod_u64 Try.underlying30 e2
  obtain ⟨t, rfl, rfl⟩ := trod_tx Try.underlying9 e3
  have hs : Rows.uptoBulkAll [DataW.agg [y0.1, y1.1, .lit (.int .u64 x), .lit (.string t)]] ≤ 1048576 := of_decide_eq_true hk
  simp only [Rows.uptoBulkAll, Rows.uptoBulk] at hs
  exact bookGrows_core a0 a1 b l x t W hb hl (by omega) hx
end Go.Proofs.Ytpodccgaigkalaa
