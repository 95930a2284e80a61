/- VoteStays: the walk. (Written by gen-lvstays.py.) -/
import Derived.Test.YtjngjmhhfhkbkaaVotIface
import Derived.Test.YtjngjmhhfhkbkaaVotOpen
namespace Vt
theorem give_first (low : Int) (b : Bl) : ((give [] low b).2 = 0 ∧ (give [] low b).1 = [b]  ∧ low < b.2.1 ∧ may b = true) ∨ ((give [] low b).2 ≠ 0 ∧ (b.1 < 1 ∨ 64 < b.1 ∨ b.2.1 < 1 ∨ b.2.1 ≤ low)) := by
  by_cases hm : may b = false
  · right
    refine ⟨by rw [give, if_pos hm]; show (1 : Int) ≠ 0; decide, ?_⟩
    simp only [may, Bool.and_eq_false_iff, decide_eq_false_iff_not] at hm
    omega
  · have hm2 : may b = true := by simpa using hm
    by_cases hl : b.2.1 ≤ low
    · exact .inr ⟨by rw [give, if_neg hm, if_pos hl]; show (9 : Int) ≠ 0; decide, .inr (.inr (.inr hl))⟩
    · have e : give [] low b = ([b], 0) := by rw [give, if_neg hm, if_neg hl]; rfl
      left
      rw [e]
      exact ⟨rfl, rfl, by omega, hm2⟩
/-- The votes behind k askings. -/
def asked (low : Int) (b : Bl) (l : List Bl) : List Bl := l.foldl (fun v c => (give v low c).1) [b]
theorem asked_step (low : Int) (b : Bl) (l : List Bl) (k : Nat) (h : k < l.length) : asked low b (l.take (k + 1)) = (give (asked low b (l.take k)) low l[k]).1 := by
  rw [asked, List.take_succ_eq_append_getElem h, List.foldl_append]; rfl
theorem asked_right (low : Int) (b : Bl) (hm : may b = true) (l : List Bl) (k : Nat) (hk : k ≤ l.length) : Rt (asked low b (l.take k)) ∧ b ∈ asked low b (l.take k) ∧ (asked low b (l.take k)).length ≤ k + 1 := by
  induction k with
  | zero => exact ⟨⟨by simpa [asked] using hm, by simp [asked]⟩, by simp [asked], by simp [asked]⟩
  | succ k ih =>
    obtain ⟨h1, h2, h3⟩ := ih (by omega)
    rw [asked_step low b l k (by omega)]
    refine ⟨rt_give _ _ _ h1, stays_give _ _ _ _ h2, ?_⟩
    unfold give
    split
    · simp only []; omega
    · split
      · simp only []; omega
      · split
        · split <;> simp only [] <;> omega
        · simp only [ins_len]; omega
end Vt
namespace Go.Proofs.Ytjngjmhhfhkbkaa
open Go.RowKit Go.ChangeShapes Go.WideShapes Go.ChangeAt

set_option maxHeartbeats 8000000 in
set_option maxRecDepth 100000 in
theorem voteStays_core (v : Value) (l : List Vt.Bl) (s : Vt.Bl) (low : Int) (W : World) (hv : BalAt W v l) (hl : l.length ≤ 4398046510976) :
    Calls Try.prog 6 #[v, bval s, .int .i64 low] W fun e W' => e = .returned (.bool true) ∧ Below W.heap.size W W' := by
  obtain ⟨m, c, hm⟩ : ∃ m c, Vt.give [] low s = (m, c) := ⟨_, _, rfl⟩
  have hfirst := Vt.give_first low s
  rw [hm] at hfirst
  have HM := Lib.hid hm
  have HV := Lib.hid hv
  obtain ⟨va, vc, rfl⟩ := hv.len
  clear hm hv
  have HASK := Lib.hid (Vt.asked_right low s)
  have HSTEP := Lib.hid (Vt.asked_step low s l)
  obtain ⟨x, r, t⟩ := s
  simp only [iv, bval] at *
  obtain ⟨w0, hw0⟩ : ∃ w0, W.alloc (.cells #[.int .i64 x, .int .i64 r, tx t] 24) = w0 := ⟨_, rfl⟩
  have GR := Lib.hid (show Below W.heap.size W w0 by rw [← hw0]; exact (Below.refl _ _).alloc (Nat.le_refl _) _)
  have Q0 := Lib.hid (show w0.cell? ⟨W.heap.size, 0, none⟩ = some (.int .i64 x) by rw [← hw0]; simp)
  have Q1 := Lib.hid (show w0.cell? ⟨W.heap.size, 1, none⟩ = some (.int .i64 r) by rw [← hw0]; simp)
  have Q2 := Lib.hid (show w0.cell? ⟨W.heap.size, 2, none⟩ = some (tx t) by rw [← hw0]; simp)
  obtain ⟨C, hC⟩ : ∃ C, W.heap.size = C := ⟨_, rfl⟩
  rw [hC] at Q0 Q1 Q2
  have HF := Lib.hid hfirst
  clear hfirst
  go_enter Try.func6, Try.ntmps6
  go_wp2_with fail
  clear hw0
  refine (vtShown _).mono ?_
  rintro e w1 ⟨rfl, h1⟩
  have r0 := below_cell h1 Q0.out
  have r1 := below_cell h1 Q1.out
  have r2 := below_cell h1 Q2.out
  have g1 := GR.out.trans (h1.mono GR.out.size)
  clear h1 Q0 Q1 Q2
  go_wp2_with fail
  refine (pgive_eq (s := (x, r, t)) HM.out _ (.inl ⟨none, rfl, rfl⟩) (by simp)).mono ?_
  rintro e w2 ⟨u, rfl, hu, h2⟩
  have HU := Lib.hid hu
  replace r0 := below_cell h2 r0
  replace r1 := below_cell h2 r1
  replace r2 := below_cell h2 r2
  have g2 := grow_trans g1 h2
  have G2 := Lib.hid g2
  clear hu h2 g1 g2
  rcases HF.out with ⟨rfl, he, hlow, hmay⟩ | ⟨hc, hbad⟩
  · subst he
    have HL := Lib.hid (HV.out.below G2.out)
    have hsz2 := G2.out.size
    have HA0 := Lib.hid (HASK.out hmay l)
    have R0 := Lib.hid r0
    have R1 := Lib.hid r1
    have R2 := Lib.hid r2
    have HLOW := Lib.hid hlow
    have t3 : ((0 : Int) != 0) = false := by decide
    clear r0 r1 r2 HF HM HASK hlow hmay
    go_wp2_with fail
    clear t3
    go_loopw [8, 10] (fun vv i wr => ∃ k : Nat, i = .int .i64 k ∧ k ≤ l.length ∧ BalAt wr vv (Vt.asked low (x, r, t) (l.take k)) ∧ Below w2.heap.size w2 wr) (fun _ i _ => l.length - (intOf i).toNat)
    case atStart => exact ⟨0, rfl, by omega, HU.out, Below.refl _ _⟩
    case round =>
      obtain ⟨k, rfl, hk, ha, hb⟩ := hrel
      obtain ⟨hrt, hin, hle⟩ := HA0.out k hk
      have HA := Lib.hid ha
      have HB := Lib.hid hb
      have hszr := hb.size
      clear ha hb HU
      by_cases hlt : k < l.length
      · have hlf := HL.out.flat
        rcases flat_ballots hlf (Below.refl _ _) with ⟨hle, _⟩ | ⟨_, b', off', cap', hve, hcl⟩
        · rw [hle] at hlt; simp at hlt
        simp only [Value.slice.injEq, true_and] at hve
        obtain ⟨rfl, rfl⟩ := hve
        obtain ⟨d1', d2', d3'⟩ := hcl k hlt
        have d1 := below_cell HB.out d1'
        have d2 := below_cell HB.out d2'
        have d3 := below_cell HB.out d3'
        have hst := HSTEP.out k hlt
        obtain ⟨M, hM⟩ : ∃ M, Vt.asked low (x, r, t) (l.take k) = M := ⟨_, rfl⟩
        obtain ⟨y, hy⟩ : ∃ y, l[k] = y := ⟨_, rfl⟩
        rw [hy] at d1 d2 d3 hst
        rw [hM] at hst hle HA
        obtain ⟨M2, c2, hM2⟩ : ∃ M2 c2, Vt.give M low y = (M2, c2) := ⟨_, _, rfl⟩
        rw [hM2] at hst
        have HST := Lib.hid hst
        have HG := Lib.hid hM2
        clear hy hM hst hM2 d1' d2' d3' hcl hlf hrt hin
        obtain ⟨x', r', t'⟩ := y
        simp only [iv] at d1 d2 d3
        go_wp2_with fail
        refine (pgive_eq (s := (x', r', t')) HG.out _ HA.out (by omega)).mono ?_
        rintro e w3 ⟨u3, rfl, hu3, h3⟩
        have HU3 := Lib.hid hu3
        have HB3 := Lib.hid (grow_trans HB.out h3)
        clear hu3 h3
        go_wp2
        go_roundw
        case rel => exact ⟨k + 1, by go_num, hlt, by rw [HST.out]; exact HU3.out, HB3.out⟩
        case measure => simp [intOf]; omega
      · obtain rfl : k = l.length := by omega
        rw [List.take_length] at hrt hin hle HA
        obtain ⟨M, hM⟩ : ∃ M, Vt.asked low (x, r, t) l = M := ⟨_, rfl⟩
        rw [hM] at hrt hin hle HA
        obtain ⟨f, hf⟩ : ∃ f, Vt.floor M low = f := ⟨_, rfl⟩
        have hfl : f.length ≤ M.length := by rw [← hf]; exact floor_len M low
        have hfd : Vt.found f x r = (t, true) := by
          have := Vt.found_floor M low (x, r, t) hrt hin HLOW.out
          rw [hf] at this
          rw [Vt.found, this]; rfl
        have HFL := Lib.hid hf
        have HFD := Lib.hid hfd
        have s0 := below_cell HB.out R0.out
        have s1 := below_cell HB.out R1.out
        have s2 := below_cell HB.out R2.out
        have hS : (fun w' : World => w'.cell? ⟨C, 0, none⟩ = some (.int .i64 x) ∧ w'.cell? ⟨C, 1, none⟩ = some (.int .i64 r) ∧ w'.cell? ⟨C, 2, none⟩ = some (tx t) ∧ Below wr.heap.size wr w') wr := ⟨s0, s1, s2, Below.refl _ _⟩
        have hk := Lib.hid (show ∀ A1 A2 : World, (fun w' : World => w'.cell? ⟨C, 0, none⟩ = some (.int .i64 x) ∧ w'.cell? ⟨C, 1, none⟩ = some (.int .i64 r) ∧ w'.cell? ⟨C, 2, none⟩ = some (tx t) ∧ Below wr.heap.size wr w') A1 → Below A1.heap.size A1 A2 → (fun w' : World => w'.cell? ⟨C, 0, none⟩ = some (.int .i64 x) ∧ w'.cell? ⟨C, 1, none⟩ = some (.int .i64 r) ∧ w'.cell? ⟨C, 2, none⟩ = some (tx t) ∧ Below wr.heap.size wr w') A2 from fun A1 A2 ⟨k0, k1, k2, kb⟩ h => ⟨below_cell h k0, below_cell h k1, below_cell h k2, grow_trans kb h⟩)
        clear hM hf hfd hrt hin s0 s1 s2
        go_upto_region 9 with fail
        refine wp_region_held_drew (S := (fun w' : World => w'.cell? ⟨C, 0, none⟩ = some (.int .i64 x) ∧ w'.cell? ⟨C, 1, none⟩ = some (.int .i64 r) ∧ w'.cell? ⟨C, 2, none⟩ = some (tx t) ∧ Below wr.heap.size wr w')) (by kernel_rfl) ?_ (fun hHeld => ?_)
        · exact hk.out _ _ hS (Below.drew (Below.refl _ _))
        refine takeW (i := 0) (v := ?_) rfl (by kernel_rfl) (by kernel_rfl) (by kernel_rfl) (fun _ _ _ h => h) (by rfl) ?_ (by assumption) ?_
        rotate_left
        focus (intro w hSw; (try dsimp only at hSw); go_simp; try (with_reducible rfl))
        simp only [Act.put, List.setIfInBounds_toArray, List.set_cons_zero, List.set_cons_succ]
        refine takeW (i := 1) (v := ?_) rfl (by kernel_rfl) (by kernel_rfl) (by kernel_rfl) (fun _ _ _ h => h) (by rfl) ?_ (by assumption) ?_
        rotate_left
        focus (intro w hSw; (try dsimp only at hSw); go_simp; try (with_reducible rfl))
        simp only [Act.put, List.setIfInBounds_toArray, List.set_cons_zero, List.set_cons_succ]
        refine takeW (i := 3) (v := ?_) rfl (by kernel_rfl) (by kernel_rfl) (by kernel_rfl) (fun _ _ _ h => h) (by rfl) ?_ (by assumption) ?_
        rotate_left
        focus (intro w hSw; (try dsimp only at hSw); go_simp; try (with_reducible rfl))
        simp only [Act.put, List.setIfInBounds_toArray, List.set_cons_zero, List.set_cons_succ]
        refine takeW (i := 4) (v := ?_) rfl (by kernel_rfl) (by kernel_rfl) (by kernel_rfl) (fun _ _ _ h => h) (by rfl) ?_ (by assumption) ?_
        rotate_left
        focus (intro w hSw; (try dsimp only at hSw); go_simp; try (with_reducible rfl))
        simp only [Act.put, List.setIfInBounds_toArray, List.set_cons_zero, List.set_cons_succ]
        refine takeW (i := 5) (v := ?_) rfl (by kernel_rfl) (by kernel_rfl) (by kernel_rfl) (fun _ _ _ h => h) (by rfl) ?_ (by assumption) ?_
        rotate_left
        focus (intro w hSw; (try dsimp only at hSw); go_simp; try (with_reducible rfl))
        simp only [Act.put, List.setIfInBounds_toArray, List.set_cons_zero, List.set_cons_succ]
        refine takeW (i := 6) (v := ?_) rfl (by kernel_rfl) (by kernel_rfl) (by kernel_rfl) (fun _ _ _ h => h) (by rfl) ?_ (by assumption) ?_
        rotate_left
        focus (intro w hSw; (try dsimp only at hSw); go_simp; try (with_reducible rfl))
        simp only [Act.put, List.setIfInBounds_toArray, List.set_cons_zero, List.set_cons_succ]
        refine readyOne (i := 2) (by kernel_rfl) rfl (fun K hK => ?_)
        go_simp
        refine (pfloor_eq HFL.out _ (HA.out.below (show (fun w' : World => w'.cell? ⟨C, 0, none⟩ = some (.int .i64 x) ∧ w'.cell? ⟨C, 1, none⟩ = some (.int .i64 r) ∧ w'.cell? ⟨C, 2, none⟩ = some (tx t) ∧ Below wr.heap.size wr w') _ by assumption).2.2.2) (by omega)).mono ?_
        rintro e w9 ⟨u9, rfl, hu9, h9⟩
        have kS : (fun w' : World => w'.cell? ⟨C, 0, none⟩ = some (.int .i64 x) ∧ w'.cell? ⟨C, 1, none⟩ = some (.int .i64 r) ∧ w'.cell? ⟨C, 2, none⟩ = some (tx t) ∧ Below wr.heap.size wr w') w9 := hk.out _ _ (by assumption) h9
        go_wp2_with fail
        refine hK.out _ _ kS (fun hHeld => ?_)
        clear hK K
        refine readyOne (i := 7) (by kernel_rfl) rfl (fun K hK => ?_)
        go_simp
        refine (pfind_eq HFD.out _ hu9.flat (by omega)).mono ?_
        rintro e w8 ⟨rfl, h8⟩
        have kS : (fun w' : World => w'.cell? ⟨C, 0, none⟩ = some (.int .i64 x) ∧ w'.cell? ⟨C, 1, none⟩ = some (.int .i64 r) ∧ w'.cell? ⟨C, 2, none⟩ = some (tx t) ∧ Below wr.heap.size wr w') w8 := hk.out _ _ (by assumption) h8
        go_wp2_with fail
        refine hK.out _ _ kS (fun hHeld => ?_)
        clear hK K
        refine takeW (i := 8) (v := ?_) rfl (by kernel_rfl) (by kernel_rfl) (by kernel_rfl) (fun _ _ _ h => h) (by rfl) ?_ (by assumption) ?_
        rotate_left
        focus (intro w hSw; (try dsimp only at hSw); go_simp; try (with_reducible rfl))
        simp only [Act.put, List.setIfInBounds_toArray, List.set_cons_zero, List.set_cons_succ]
        refine takeW (i := 9) (v := ?_) rfl (by kernel_rfl) (by kernel_rfl) (by kernel_rfl) (fun _ _ _ h => h) (by rfl) ?_ (by assumption) ?_
        rotate_left
        focus (intro w hSw; (try dsimp only at hSw); go_simp; try (with_reducible rfl))
        simp only [Act.put, List.setIfInBounds_toArray, List.set_cons_zero, List.set_cons_succ]
        refine takeW (i := 10) (v := ?_) rfl (by kernel_rfl) (by kernel_rfl) (by kernel_rfl) (fun _ _ _ h => h) (by rfl) ?_ (by assumption) ?_
        rotate_left
        focus (intro w hSw; (try dsimp only at hSw); go_simp; try (with_reducible rfl))
        simp only [Act.put, List.setIfInBounds_toArray, List.set_cons_zero, List.set_cons_succ]
        refine takeW (i := 11) (v := ?_) rfl (by kernel_rfl) (by kernel_rfl) (by kernel_rfl) (fun _ _ _ h => h) (by rfl) ?_ (by assumption) ?_
        rotate_left
        focus (intro w hSw; (try dsimp only at hSw); go_simp; try (with_reducible rfl))
        simp only [Act.put, List.setIfInBounds_toArray, List.set_cons_zero, List.set_cons_succ]
        refine takeW (i := 12) (v := ?_) rfl (by kernel_rfl) (by kernel_rfl) (by kernel_rfl) (fun _ _ _ h => h) (by rfl) ?_ (by assumption) ?_
        rotate_left
        focus (intro w hSw; (try dsimp only at hSw); go_simp; try (with_reducible rfl))
        simp only [Act.put, List.setIfInBounds_toArray, List.set_cons_zero, List.set_cons_succ]
        refine wpAnyH_done (by kernel_rfl) ?_ _
        obtain ⟨z0, z1, z2, zb⟩ := (show (fun w' : World => w'.cell? ⟨C, 0, none⟩ = some (.int .i64 x) ∧ w'.cell? ⟨C, 1, none⟩ = some (.int .i64 r) ∧ w'.cell? ⟨C, 2, none⟩ = some (tx t) ∧ Below wr.heap.size wr w') _ by assumption)
        have HZ := Lib.hid (G2.out.trans ((grow_trans HB.out zb).mono hsz2))
        clear hS zb
        go_wp2
        go_ret
        exact ⟨by simp, HZ.out⟩
  · have t3 : (c != 0) = true := by rw [bne_iff_ne]; exact hc
    clear HF hc
    by_cases q1 : x < 1
    · have t4 : decide (x < 1) = true := decide_eq_true q1
      clear hbad
      go_wp2_with fail
      go_ret
      exact ⟨rfl, G2.out⟩
    · have t4 : decide (x < 1) = false := decide_eq_false q1
      by_cases q2 : 64 < x
      · have t5 : decide (64 < x) = true := decide_eq_true q2
        clear hbad q1
        go_wp2_with fail
        go_ret
        exact ⟨rfl, G2.out⟩
      · have t5 : decide (64 < x) = false := decide_eq_false q2
        by_cases q3 : r < 1
        · have t6 : decide (r < 1) = true := decide_eq_true q3
          clear hbad q1 q2
          go_wp2_with fail
          go_ret
          exact ⟨rfl, G2.out⟩
        · have t6 : decide (r < 1) = false := decide_eq_false q3
          have t7 : decide (r ≤ low) = true := decide_eq_true (by omega)
          clear hbad q1 q2 q3
          go_wp2_with fail
          go_ret
          exact ⟨rfl, G2.out⟩

theorem voteStays_walk {H : Type} (enc : TypeId × Value → H) (W : World) (base : Nat) (v0 : Value) (v1 : Value) (v2 : Value) (d0 : DataW H) (d1 : DataW H) (d2 : DataW H) (p0 : List MemPlace) (p1 : List MemPlace) (p2 : List MemPlace)
    (h0 : DataW.Trod enc Try.prog W 0 (fun _ => true) true 22 v0 d0 p0) (o0 : Value.okWide Try.prog W .any base 22 v0)
    (h1 : DataW.Trod enc Try.prog W 0 (fun _ => true) true 24 v1 d1 p1) (o1 : Value.okWide Try.prog W .any base 24 v1)
    (h2 : DataW.Trod enc Try.prog W 0 (fun _ => true) true 3 v2 d2 p2) (o2 : Value.okWide Try.prog W .any base 3 v2)
    (hsz : (DataW.weightsEach Try.prog [22, 24, 3] [d0, d1, d2]).all (· ≤ reachBytes) = true) :
    Calls Try.prog 6 #[v0, v1, v2] W fun e W' => e = .returned (.bool true) ∧ Below W.heap.size W W' := by
  simp only [DataW.weightsEach, List.all_append, Bool.and_eq_true] at hsz
  obtain ⟨a, len, cap, rfl⟩ := okWide_slice Try.underlying22 o0
  obtain ⟨n0, e0⟩ := h0
  obtain ⟨l, hv, hl⟩ := trod_ballots e0 hsz.1
  obtain ⟨s, rfl⟩ := open_ballot o1 h1
  obtain ⟨low, _, _, rfl, _, _⟩ := open_i64 Try.underlying3 o2 h2
  exact voteStays_core _ l s low W hv hl
end Go.Proofs.Ytjngjmhhfhkbkaa
