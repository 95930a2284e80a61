/- VoteFloors: the walk. -/
import Derived.Test.YtjngjmhhfhkbkaaVotIface
import Derived.Test.YtjngjmhhfhkbkaaVotOpen
namespace Go.Proofs.Ytjngjmhhfhkbkaa
open Go.RowKit Go.ChangeShapes Go.WideShapes Go.ChangeAt

theorem open_floorsIn {H : Type} {enc : TypeId × Value → H} {W : World} {base : Nat} {v : Value} {d : DataW H} {p : List MemPlace} (o : Value.okWide Try.prog W .any base 44 v) (h : DataW.Trod enc Try.prog W 0 (fun _ => true) true 44 v d p)
    (hsz : (DataW.weights Try.prog 44 d).all (· ≤ reachBytes) = true) :
    ∃ (s : Value) (l : List Vt.Bl) (a b : Int) (x : Vt.Bl), v = .agg #[s, iv a, iv b, iv x.1, iv x.2.1, tx x.2.2] ∧ BalAt W s l ∧ l.length ≤ 4398046510976 := by
  obtain ⟨cs, rfl, hC⟩ := okWide_struct Try.underlying44 o
  have hC6 : cs.size = 6 := hC.trans (by kernel_rfl)
  obtain ⟨fuel, hf⟩ := h
  obtain ⟨y0, y1, y2, y3, m, hx, _, e0, e1, e2, e3⟩ := Joins.trod_struct4 Try.underlying44 hf
  simp only [Prod.mk.injEq] at hx
  obtain ⟨rfl, _⟩ := hx
  simp only [DataW.weights, Try.underlying44, DataW.weightsEach, List.all_append, Bool.and_eq_true, List.map_cons] at hsz
  have k1 : Try.prog.cellsOf 3 = 1 := by kernel_rfl
  have k2 : Try.prog.cellsOf 22 = 1 := by kernel_rfl
  have k3 : Try.prog.cellsOf 24 = 3 := by kernel_rfl
  obtain ⟨l⟩ := cs
  match l, hC6 with
  | [c0, c1, c2, c3, c4, c5], _ =>
    have e0' : DataW.trod enc Try.prog W 0 (fun _ => true) true m 22 [c0] = some y0 := by simpa [Value.cells, k2] using e0
    have e1' : DataW.trod enc Try.prog W 0 (fun _ => true) true m 3 [c1] = some y1 := by simpa [Value.cells, k1] using e1
    have e2' : DataW.trod enc Try.prog W 0 (fun _ => true) true m 3 [c2] = some y2 := by simpa [Value.cells, k1] using e2
    have e3' : DataW.trod enc Try.prog W 0 (fun _ => true) true m 24 [c3, c4, c5] = some y3 := by simpa [Value.cells, k3] using e3
    obtain ⟨l, hl, hn⟩ := trod_ballots e0' hsz.1
    obtain ⟨a, _, _, rfl, _⟩ := trod_i64 Try.underlying3 e1'
    obtain ⟨b, _, _, rfl, _⟩ := trod_i64 Try.underlying3 e2'
    obtain ⟨x, hx⟩ := elem_ballot _ _ _ rfl e3'
    simp only [List.cons.injEq, and_true] at hx
    obtain ⟨rfl, rfl, rfl⟩ := hx
    exact ⟨c0, l, a, b, x, rfl, hl, hn⟩

theorem give_low (l : List Vt.Bl) (a : Int) (x : Vt.Bl) (h : x.2.1 ≤ a) : (Vt.give l a x).2 ≠ 0 := by
  unfold Vt.give
  rw [if_pos h]
  split
  · show (1 : Int) ≠ 0
    decide
  · show (9 : Int) ≠ 0
    decide

set_option maxHeartbeats 4000000 in
theorem voteFloors_core (v : Value) (l : List Vt.Bl) (a b : Int) (s : Vt.Bl) (W : World) (hv : BalAt W v l) (hl : l.length ≤ 4398046510976) :
    Calls Try.prog 7 #[.agg #[v, iv a, iv b, iv s.1, iv s.2.1, tx s.2.2]] W fun e W' => e = .returned (.bool true) ∧ Below W.heap.size W W' := by
  obtain ⟨m, c, hm⟩ : ∃ m c, Vt.give l a s = (m, c) := ⟨_, _, rfl⟩
  obtain ⟨f, hf⟩ : ∃ f, Vt.floor l a = f := ⟨_, rfl⟩
  obtain ⟨M, hM⟩ : ∃ M : Int, (if a < b then b else a) = M := ⟨_, rfl⟩
  obtain ⟨q, hq⟩ : ∃ q, Vt.floor l M = q := ⟨_, rfl⟩
  have hfq : Vt.floor f b = q := by rw [← hf, ← hq, ← hM, Vt.floor_floor]
  have hfl : f.length ≤ l.length := by rw [← hf]; exact floor_len l a
  have hql : q.length ≤ l.length := by rw [← hq]; exact floor_len l M
  have hlow : s.2.1 ≤ a → c ≠ 0 := by intro h; have := give_low l a s h; rw [hm] at this; exact this
  have HLOW := Lib.hid hlow
  have HM := Lib.hid hm
  have HF := Lib.hid hf
  have HQ := Lib.hid hq
  have HFQ := Lib.hid hfq
  have HMX := Lib.hid hM
  have HV := Lib.hid hv
  clear hm hf hv hq hfq hlow hM
  obtain ⟨x, r, t⟩ := s
  simp only [iv] at *
  obtain ⟨w0, hw0⟩ : ∃ w0, (W.alloc (.cells #[v, .int .i64 a, .int .i64 b, .int .i64 x, .int .i64 r, tx t] 44)).alloc (.cells #[.int .i64 x, .int .i64 r, tx t] 24) = w0 := ⟨_, rfl⟩
  have GR := Lib.hid (show Below W.heap.size W w0 by rw [← hw0]; exact ((Below.refl _ _).alloc (Nat.le_refl _) _).alloc (by simp) _)
  have Q0 := Lib.hid (show w0.cell? ⟨W.heap.size + 1, 0, none⟩ = some (.int .i64 x) by rw [← hw0]; simp)
  have Q1 := Lib.hid (show w0.cell? ⟨W.heap.size + 1, 1, none⟩ = some (.int .i64 r) by rw [← hw0]; simp)
  have Q2 := Lib.hid (show w0.cell? ⟨W.heap.size + 1, 2, none⟩ = some (tx t) by rw [← hw0]; simp)
  go_enter Try.func7, Try.ntmps7
  go_wp2_with fail
  clear hw0
  refine (vtShown _).mono ?_
  rintro e w1 ⟨rfl, h1⟩
  have r0 := below_cell h1 Q0.out
  have r1 := below_cell h1 Q1.out
  have r2 := below_cell h1 Q2.out
  have g1 := GR.out.trans (h1.mono GR.out.size)
  clear h1 Q0 Q1 Q2
  by_cases hab : a < b
  · have t1 : decide (a < b) = true := decide_eq_true hab
    have HQM := Lib.hid (show Vt.floor l b = q by rw [← HQ.out, ← HMX.out, if_pos hab])
    clear hab HQ HMX
    go_wp2_with fail
    refine (pfloor_eq HF.out _ (HV.out.below g1) (by omega)).mono ?_
    rintro e w2 ⟨u, rfl, hu, h2⟩
    have HU := Lib.hid hu
    replace r0 := below_cell h2 r0
    replace r1 := below_cell h2 r1
    replace r2 := below_cell h2 r2
    have g2 := grow_trans g1 h2
    clear hu h2 g1
    go_wp2_with fail
    refine (pfloor_eq HFQ.out _ HU.out (by omega)).mono ?_
    rintro e w3 ⟨u3, rfl, hu, h2⟩
    have HU3 := Lib.hid hu
    replace r0 := below_cell h2 r0
    replace r1 := below_cell h2 r1
    replace r2 := below_cell h2 r2
    have g3 := grow_trans g2 h2
    clear hu h2 g2
    go_wp2_with fail
    refine (pfloor_eq HQM.out _ (HV.out.below g3) (by omega)).mono ?_
    rintro e w4 ⟨u4, rfl, hu, h2⟩
    have HU4 := Lib.hid hu
    have HU5 := Lib.hid (HU3.out.below h2)
    replace r0 := below_cell h2 r0
    replace r1 := below_cell h2 r1
    replace r2 := below_cell h2 r2
    have g4 := grow_trans g3 h2
    clear hu h2 g3
    go_wp2_with fail
    refine (rsame_eq (c := true) (by simp) _ HU5.out.flat HU4.out.flat (by omega)).mono ?_
    rintro e w5 ⟨rfl, h2⟩
    replace r0 := below_cell h2 r0
    replace r1 := below_cell h2 r1
    replace r2 := below_cell h2 r2
    have g5 := grow_trans g4 h2
    clear h2 g4
    go_wp2_with fail
    refine (pgive_eq (s := (x, r, t)) HM.out _ (HV.out.below g5) (by omega)).mono ?_
    rintro e w6 ⟨u6, rfl, hu, h2⟩
    replace r0 := below_cell h2 r0
    replace r1 := below_cell h2 r1
    replace r2 := below_cell h2 r2
    have g6 := grow_trans g5 h2
    clear h2 g5 hu
    have G6 := Lib.hid g6
    clear g6
    by_cases hra : a < r
    · have t2 : decide (a < r) = true := decide_eq_true hra
      go_wp2_with fail
      go_ret
      exact ⟨rfl, G6.out⟩
    · have t2 : decide (a < r) = false := decide_eq_false hra
      have t3 : (c != 0) = true := by rw [bne_iff_ne]; exact HLOW.out (by omega)
      clear hra
      go_wp2_with fail
      go_ret
      exact ⟨rfl, G6.out⟩
  · have t1 : decide (a < b) = false := decide_eq_false hab
    have HQM := Lib.hid (show Vt.floor l a = q by rw [← HQ.out, ← HMX.out, if_neg hab])
    clear hab HQ HMX
    go_wp2_with fail
    refine (pfloor_eq HF.out _ (HV.out.below g1) (by omega)).mono ?_
    rintro e w2 ⟨u, rfl, hu, h2⟩
    have HU := Lib.hid hu
    replace r0 := below_cell h2 r0
    replace r1 := below_cell h2 r1
    replace r2 := below_cell h2 r2
    have g2 := grow_trans g1 h2
    clear hu h2 g1
    go_wp2_with fail
    refine (pfloor_eq HFQ.out _ HU.out (by omega)).mono ?_
    rintro e w3 ⟨u3, rfl, hu, h2⟩
    have HU3 := Lib.hid hu
    replace r0 := below_cell h2 r0
    replace r1 := below_cell h2 r1
    replace r2 := below_cell h2 r2
    have g3 := grow_trans g2 h2
    clear hu h2 g2
    go_wp2_with fail
    refine (pfloor_eq HQM.out _ (HV.out.below g3) (by omega)).mono ?_
    rintro e w4 ⟨u4, rfl, hu, h2⟩
    have HU4 := Lib.hid hu
    have HU5 := Lib.hid (HU3.out.below h2)
    replace r0 := below_cell h2 r0
    replace r1 := below_cell h2 r1
    replace r2 := below_cell h2 r2
    have g4 := grow_trans g3 h2
    clear hu h2 g3
    go_wp2_with fail
    refine (rsame_eq (c := true) (by simp) _ HU5.out.flat HU4.out.flat (by omega)).mono ?_
    rintro e w5 ⟨rfl, h2⟩
    replace r0 := below_cell h2 r0
    replace r1 := below_cell h2 r1
    replace r2 := below_cell h2 r2
    have g5 := grow_trans g4 h2
    clear h2 g4
    go_wp2_with fail
    refine (pgive_eq (s := (x, r, t)) HM.out _ (HV.out.below g5) (by omega)).mono ?_
    rintro e w6 ⟨u6, rfl, hu, h2⟩
    replace r0 := below_cell h2 r0
    replace r1 := below_cell h2 r1
    replace r2 := below_cell h2 r2
    have g6 := grow_trans g5 h2
    clear h2 g5 hu
    have G6 := Lib.hid g6
    clear g6
    by_cases hra : a < r
    · have t2 : decide (a < r) = true := decide_eq_true hra
      go_wp2_with fail
      go_ret
      exact ⟨rfl, G6.out⟩
    · have t2 : decide (a < r) = false := decide_eq_false hra
      have t3 : (c != 0) = true := by rw [bne_iff_ne]; exact HLOW.out (by omega)
      clear hra
      go_wp2_with fail
      go_ret
      exact ⟨rfl, G6.out⟩

theorem voteFloors_walk {H : Type} (enc : TypeId × Value → H) (W : World) (base : Nat) (v0 : Value) (d0 : DataW H) (p0 : List MemPlace)
    (h0 : DataW.Trod enc Try.prog W 0 (fun _ => true) true 44 v0 d0 p0) (o0 : Value.okWide Try.prog W .any base 44 v0)
    (hsz : (DataW.weightsEach Try.prog [44] [d0]).all (· ≤ reachBytes) = true) :
    Calls Try.prog 7 #[v0] W fun e W' => e = .returned (.bool true) ∧ Below W.heap.size W W' := by
  simp only [DataW.weightsEach, List.all_append, Bool.and_eq_true] at hsz
  obtain ⟨s, l, a, b, x, rfl, hv, hl⟩ := open_floorsIn o0 h0 hsz.1
  exact voteFloors_core s l a b x W hv hl
end Go.Proofs.Ytjngjmhhfhkbkaa
