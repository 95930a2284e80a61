/- BookOrder: the walk. -/
import Derived.Test.YtpodccgaigkalaaBkIface
import Derived.Test.YtpodccgaigkalaaOpenSeals
namespace Bk
theorem puts_len (l b : List Sl) : (puts b l).length ≤ b.length + l.length := by
  induction l generalizing b with
  | nil => simp [puts]
  | cons s l ih =>
    have h := ih (put b s)
    have h2 := put_len b s
    rw [puts, List.foldl_cons, ← puts, List.length_cons]
    split at h2 <;> omega
theorem puts_step (l b : List Sl) (k : Nat) (h : k < l.length) : puts b (l.take (k + 1)) = put (puts b (l.take k)) l[k] := by
  rw [puts, List.take_succ_eq_append_getElem h, List.foldl_append]; rfl
end Bk
namespace Go.Proofs.Ytpodccgaigkalaa
open Go.RowKit Go.ChangeShapes Go.WideShapes Go.ChangeAt

theorem bsame_eq {va vb : Value} {a b : List Bk.Sl} (h : a = b) (w : World) (ha : FlatAt w va 2 (seals a)) (hb : FlatAt w vb 2 (seals b)) (la : a.length ≤ 140737488351232) :
    Calls Try.prog 11 #[va, vb] w fun e w' => e = .returned (.bool true) ∧ Below w.heap.size w w' := by
  refine (rbsame_any va vb a b w ha hb la).mono ?_
  rintro e w' ⟨rfl, n, rfl⟩
  exact ⟨by rw [decide_eq_true h], below_drewN (Below.refl _ _) n⟩

set_option maxHeartbeats 4000000 in
theorem bookOrder_core (v : Value) (l : List Bk.Sl) (W : World) (hv : BookAt W v l) (hl : l.length ≤ 5864062014634) :
    Calls Try.prog 6 #[v] W fun e W' => e = .returned (.bool true) ∧ Below W.heap.size W W' := by
  have hord := Bk.puts_order l
  have hst := Bk.puts_step l []
  have hst2 := Bk.puts_step l.reverse []
  have hln : ∀ k, (Bk.puts [] (l.take k)).length ≤ 5864062014634 := fun k => by
    have := Bk.puts_len (l.take k) []
    rw [List.length_take] at this
    simp only [List.length_nil] at this
    omega
  have hln2 : ∀ k, (Bk.puts [] (l.reverse.take k)).length ≤ 5864062014634 := fun k => by
    have := Bk.puts_len (l.reverse.take k) []
    rw [List.length_take, List.length_reverse] at this
    simp only [List.length_nil] at this
    omega
  have HO := Lib.hid hord
  have HST := Lib.hid hst
  have HST2 := Lib.hid hst2
  have HLN := Lib.hid hln
  have HLN2 := Lib.hid hln2
  clear hord hst hst2 hln hln2
  rcases hv with ⟨a, rfl, rfl⟩ | ⟨b, off, cap, rfl, _, _, hc⟩
  · go_enter Try.func6, Try.ntmps6
    go_wp2_with fail
    refine (bkShown _).mono ?_
    rintro e w1 ⟨rfl, g1⟩
    go_wp2_with fail
    refine wp_loop_rounds 1 ?_
    rw [rounds_succ]
    go_wp2_with fail
    refine (bsame_eq (a := []) (b := []) rfl _ (.inl ⟨_, _, rfl, rfl⟩) (.inl ⟨_, _, rfl, rfl⟩) (by simp)).mono ?_
    rintro e w2 ⟨rfl, h2⟩
    have g2 := grow_trans g1 h2
    go_wp2_with fail
    go_ret
    exact ⟨rfl, g2⟩
  · have HC := Lib.hid hc
    clear hc
    go_enter Try.func6, Try.ntmps6
    go_wp2_with fail
    refine (bkShown _).mono ?_
    rintro e w1 ⟨rfl, g1⟩
    have G1 := Lib.hid g1
    clear g1
    go_wp2_with fail
    go_loopw [4, 5, 6] (fun x y i wr => ∃ k : Nat, i = .int .i64 k ∧ k ≤ l.length ∧ BookAt wr x (Bk.puts [] (l.take k)) ∧ BookAt wr y (Bk.puts [] (l.reverse.take k)) ∧ Below W.heap.size W wr) (fun _ _ i _ => l.length - (intOf i).toNat)
    case atStart => exact ⟨0, rfl, by omega, .inl ⟨none, rfl, rfl⟩, .inl ⟨none, rfl, rfl⟩, G1.out⟩
    case round =>
      obtain ⟨k, rfl, hk, hx, hy, hbel⟩ := hrel
      have HX := Lib.hid hx
      have HY := Lib.hid hy
      have HB := Lib.hid hbel
      clear hx hy hbel
      by_cases hlt : k < l.length
      · obtain ⟨M, hM⟩ : ∃ M, l.length - 1 = M := ⟨_, rfl⟩
        obtain ⟨J, hJ⟩ : ∃ J, M - k = J := ⟨_, rfl⟩
        have hx1 : IntKind.i64.wrap ((l.length : Int) - 1) = (M : Int) := by rw [show (l.length : Int) - 1 = (M : Int) by omega]; exact IntWalk.i64_in _ ⟨by omega, by omega⟩
        have hx2 : IntKind.i64.wrap ((M : Int) - (k : Int)) = (J : Int) := by rw [show (M : Int) - (k : Int) = (J : Int) by omega]; exact IntWalk.i64_in _ ⟨by omega, by omega⟩
        have hjl : J < l.length := by omega
        have hj1 : (0 : Int) ≤ (J : Int) := by omega
        have hj2 : (J : Int) < (l.length : Int) := by omega
        have hj3 : (J : Int).toNat = J := by omega
        have hs1 := HST.out k hlt
        have hs2 := HST2.out k (by rw [List.length_reverse]; exact hlt)
        have hr : l.reverse[k]'(by rw [List.length_reverse]; exact hlt) = l[J] := by
          rw [List.getElem_reverse]
          congr 1
          omega
        rw [hr] at hs2
        obtain ⟨c1', c2'⟩ := HC.out k hlt
        obtain ⟨d1', d2'⟩ := HC.out J hjl
        have c1 := below_cell HB.out c1'
        have c2 := below_cell HB.out c2'
        have D1 := Lib.hid (below_cell HB.out d1')
        have D2 := Lib.hid (below_cell HB.out d2')
        obtain ⟨s, es⟩ : ∃ s, l[k] = s := ⟨_, rfl⟩
        obtain ⟨u, eu⟩ : ∃ u, l[J] = u := ⟨_, rfl⟩
        rw [es] at c1 c2 hs1
        rw [eu] at D1 D2 hs2
        have HS1 := Lib.hid hs1.symm
        have HS2 := Lib.hid hs2.symm
        have l1 := HLN.out k
        have l2 := HLN2.out k
        clear hs1 hs2 c1' c2' d1' d2' hr hM hJ es eu
        go_wp2_with fail
        refine (pput_eq HS1.out _ HX.out (by omega)).mono ?_
        rintro e w2 ⟨p, rfl, hp, h2⟩
        have HP := Lib.hid hp
        have d1 := below_cell h2 D1.out
        have d2 := below_cell h2 D2.out
        have g2 := grow_trans HB.out h2
        clear hp c1 c2
        go_wp2_with fail
        refine (pput_eq HS2.out _ (HY.out.below h2) (by omega)).mono ?_
        rintro e w3 ⟨q, rfl, hq, h3⟩
        have HQ := Lib.hid hq
        have HP2 := Lib.hid (HP.out.below h3)
        have g3 := grow_trans g2 h3
        clear hq d1 d2 hx1 hx2
        go_wp2_with fail
        go_roundw
        case rel => exact ⟨k + 1, by go_num, hlt, HP2.out, HQ.out, g3⟩
        case measure => simp [intOf]; omega
      · obtain rfl : k = l.length := by omega
        have e : Bk.puts [] (l.take l.length) = Bk.puts [] (l.reverse.take l.length) := by
          have : l.reverse.take l.length = l.reverse := by rw [← List.length_reverse, List.take_length]
          rw [this, List.take_length]; exact HO.out
        have E := Lib.hid e
        have l1 := HLN.out l.length
        clear e
        go_wp2_with fail
        refine (bsame_eq E.out _ HX.out.flat HY.out.flat (by omega)).mono ?_
        rintro e w2 ⟨rfl, h2⟩
        have g2 := grow_trans HB.out h2
        go_wp2_with fail
        go_ret
        exact ⟨rfl, g2⟩

theorem bookOrder_walk {H : Type} (enc : TypeId × Value → H) (W : World) (base : Nat) (v0 : Value) (d0 : DataW H) (p0 : List MemPlace)
    (h0 : DataW.Trod enc Try.prog W 0 (fun _ => true) true 22 v0 d0 p0) (o0 : Value.okWide Try.prog W .any base 22 v0)
    (hsz : (DataW.weightsEach Try.prog [22] [d0]).all (· ≤ reachBytes) = true) :
    Calls Try.prog 6 #[v0] W fun e W' => e = .returned (.bool true) ∧ Below W.heap.size W W' := by
  obtain ⟨a, len, cap, rfl⟩ := okWide_slice Try.underlying22 o0
  obtain ⟨n0, e0⟩ := h0
  obtain ⟨l, hv, _, hl⟩ := trod_seals Try.underlying22 e0
  simp only [DataW.weightsEach, List.all_append, Bool.and_eq_true] at hsz
  exact bookOrder_core _ l W hv (seals_reach hl hsz.1)
end Go.Proofs.Ytpodccgaigkalaa
