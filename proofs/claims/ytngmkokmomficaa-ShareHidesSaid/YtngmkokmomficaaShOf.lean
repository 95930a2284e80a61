/- A seat's share. (Written by gen-shof.py.) -/
import Derived.Test.YtngmkokmomficaaShEval
import Derived.Test.YtngmkokmomficaaKBox
namespace Go.Proofs.Ytngmkokmomficaa
open Go.RowKit
attribute [local go_sem] build_el build_el0 build_el1

/-- A share as a value. -/
abbrev shv (s : Sr.Shr) : Value := .agg #[.int .i64 s.1, .int .i64 s.2.1, .int .i64 s.2.2]
@[go_sem] theorem build_shr0 (w : World) : (Instr.build 27 #[]).run Try.prog w = .ok (.agg #[.int .i64 0, .int .i64 0, .int .i64 0]) w := run_build w 27 _ _ (by kernel_rfl)
@[go_sem] theorem build_shr (i a b : Int) (w : World) : (Instr.build 27 #[(0, .int .i64 i), (1, .agg #[.int .i64 a, .int .i64 b])]).run Try.prog w = .ok (.agg #[.int .i64 i, .int .i64 a, .int .i64 b]) w := run_build w 27 _ _ (by kernel_rfl)
@[go_sem] theorem build_shr1 (i : Int) (w : World) : (Instr.build 27 #[(0, .int .i64 i)]).run Try.prog w = .ok (.agg #[.int .i64 i, .int .i64 0, .int .i64 0]) w := run_build w 27 _ _ (by kernel_rfl)
theorem below_set3 {W W' : World} {n B : Nat} (h : Below n W W') (hB : n ≤ B) (x y z : Value) : Below n W (((W'.setCell ⟨B, 0, none⟩ x).setCell ⟨B, 1, none⟩ y).setCell ⟨B, 2, none⟩ z) :=
  ((h.setCell (p := ⟨B, 0, none⟩) hB x).setCell (p := ⟨B, 1, none⟩) hB y).setCell (p := ⟨B, 2, none⟩) hB z

theorem pshmay {i : Int} {b : Bool} (h : Sr.mayId i = b) (w : World) : Calls Try.prog 27 #[.int .i64 i] w fun e w' => e = .returned (.bool b) ∧ w = w' := by
  by_cases h1 : 1 ≤ i
  · have t1 : decide ((1 : Int) ≤ i) = true := decide_eq_true h1
    by_cases h2 : i ≤ 64
    · have t2 : decide (i ≤ (64 : Int)) = true := decide_eq_true h2
      obtain rfl : b = true := by rw [← h]; simp [Sr.mayId, h1, h2]
      clear h h1 h2
      go_enter Try.func27, Try.ntmps27
      go_wp2
      go_ret
      exact ⟨rfl, rfl⟩
    · have t2 : decide (i ≤ (64 : Int)) = false := decide_eq_false h2
      obtain rfl : b = false := by rw [← h]; simp [Sr.mayId, h2]
      clear h h1 h2
      go_enter Try.func27, Try.ntmps27
      go_wp2
      go_ret
      exact ⟨rfl, rfl⟩
  · have t1 : decide ((1 : Int) ≤ i) = false := decide_eq_false h1
    obtain rfl : b = false := by rw [← h]; simp [Sr.mayId, h1]
    clear h h1
    go_enter Try.func27, Try.ntmps27
    go_wp2
    go_ret
    exact ⟨rfl, rfl⟩

theorem all_take (p : List Ga.E) (k : Nat) (h : k < p.length) : (p.take (k + 1)).all Ga.ok = ((p.take k).all Ga.ok && Ga.ok p[k]) := by
  rw [List.take_succ_eq_append_getElem h, List.all_append]; simp

set_option maxHeartbeats 4000000 in
set_option maxRecDepth 100000 in
theorem pof_sh (v : Value) (p : List Ga.E) (i : Int) (w : World) (hv : FlatAt w v 2 (elems p)) (hlen : p.length ≤ 140737488351232) :
    Calls Try.prog 12 #[v, .int .i64 i] w fun e w' => e = .returned (.tuple #[shv (Sr.ofE p i).1, .int .i64 (Sr.ofE p i).2]) ∧ Below w.heap.size w w' := by
  have hrow := Lib.hid (fun (w' : World) (hb : Below w.heap.size w w') (h0 : 0 < p.length) => elems_row hv hb h0)
  have hcall := Lib.hid (fun (x : Ga.E) (W : World) (hb : Below w.heap.size w W) => peval_any v p x W (hv.below hb) hlen)
  obtain ⟨av, cv, rfl⟩ := hv.len (n := p.length) (elems_len p) (by omega)
  clear hv
  cases hm : Sr.mayId i with
  | false =>
    have hM := Lib.hid hm
    have e : Sr.ofE p i = ((0, 0, 0), 1) := by simp [Sr.ofE, hm]
    rw [e]
    clear e hm
    go_enter Try.func12, Try.ntmps12
    go_wp2_with fail
    refine (pshmay hM.out _).mono ?_
    rintro e w1 ⟨rfl, rfl⟩
    go_wp2
    have kb : Below w.heap.size w (w.alloc (.cells #[.int .i64 0, .int .i64 0, .int .i64 0] 27)) := (Below.refl _ _).alloc (Nat.le_refl _) _
    refine bodyPost_ret (v := .tuple #[.agg #[.int .i64 0, .int .i64 0, .int .i64 0], .int .i64 1]) ?_ rfl ⟨rfl, ?_⟩
    · simp [results, Try.f12, go_sem]
    · exact kb
  | true =>
    have hM := Lib.hid hm
    have ho : p.all Ga.ok = false → Sr.ofE p i = ((0, 0, 0), 1) := fun h => by simp [Sr.ofE, h]
    have hy : p.all Ga.ok = true → Sr.ofE p i = ((i, Sr.evalE p (i, 0)), 0) := fun h => by simp [Sr.ofE, h, hm]
    have HO := Lib.hid ho
    have HY := Lib.hid hy
    clear ho hy hm
    obtain ⟨r, hr⟩ : ∃ r, Sr.ofE p i = r := ⟨_, rfl⟩
    rw [hr] at HO HY ⊢
    clear hr
    go_enter Try.func12, Try.ntmps12
    go_wp2_with fail
    refine (pshmay hM.out _).mono ?_
    rintro e w1 ⟨rfl, rfl⟩
    have kz := KBox.new w 27 (.int .i64 0) (.int .i64 0) (.int .i64 0)
    have kb : Below w.heap.size w (w.alloc (.cells #[.int .i64 0, .int .i64 0, .int .i64 0] 27)) := (Below.refl _ _).alloc (Nat.le_refl _) _
    go_wp2_with fail
    go_loopw [14] (fun t wr => ∃ k : Nat, t = .int .i64 k ∧ k ≤ p.length ∧ (p.take k).all Ga.ok = true ∧ KBox wr w.heap.size 27 (.int .i64 0) (.int .i64 0) (.int .i64 0) ∧ Below w.heap.size w wr) (fun t _ => p.length - (intOf t).toNat)
    case atStart => exact ⟨0, rfl, by omega, rfl, kz, kb⟩
    case round =>
      clear kz kb
      obtain ⟨k, rfl, hk, hall, kz, kb⟩ := hrel
      have HALL := Lib.hid hall
      clear hall
      obtain ⟨z0, z1, z2⟩ := kz.cells
      obtain ⟨f0, f1, f2⟩ := kz.free
      by_cases hlt : k < p.length
      · obtain ⟨b, off, cap, hv, hblt, hc⟩ := hrow.out _ kb (by omega)
        injection hv with e1 _ e2
        subst e1 e2
        obtain ⟨c0, c1⟩ := hc k hlt
        have hn := all_take p k hlt
        rw [HALL.out, Bool.true_and] at hn
        obtain ⟨c, hcj⟩ : ∃ c, p[k] = c := ⟨_, rfl⟩
        rw [hcj] at c0 c1 hn
        have HM' := Lib.hid (show c ∈ p from hcj ▸ List.getElem_mem hlt)
        clear hc hcj
        have ti : (k : Int) < (p.length : Int) := by omega
        cases hok : Ga.ok c with
        | false =>
          have hr : r = ((0, 0, 0), 1) := HO.out (by rw [List.all_eq_false]; exact ⟨c, HM'.out, by rw [hok]; simp⟩)
          subst hr
          have HK := Lib.hid hok
          clear hok hn HO HY
          go_wp2_with fail
          refine (pmay_ok HK.out _).mono ?_
          rintro e w2 ⟨rfl, rfl⟩
          have kz2 := (kz.alloc (.cells #[.int .i64 c.1, .int .i64 c.2] 24)).alloc (.cells #[.int .i64 c.1, .int .i64 c.2] 24)
          have kb2 := (kb.alloc kb.size (.cells #[.int .i64 c.1, .int .i64 c.2] 24)).alloc (by have := kb.size; simp; omega) (.cells #[.int .i64 c.1, .int .i64 c.2] 24)
          clear kz kb z0 z1 z2 f0 f1 f2
          obtain ⟨z0, z1, z2⟩ := kz2.cells
          obtain ⟨f0, f1, f2⟩ := kz2.free
          go_wp2
          refine bodyPost_ret (v := .tuple #[.agg #[.int .i64 0, .int .i64 0, .int .i64 0], .int .i64 1]) ?_ rfl ⟨rfl, ?_⟩
          · obtain ⟨d0, d1, d2⟩ := (kz2.set (.int .i64 0) (.int .i64 0) (.int .i64 0)).cells
            simp [results, Try.f12, go_sem, d0, d1, d2]
          · exact below_set3 (B := w.heap.size) kb2 (Nat.le_refl _) _ _ _
        | true =>
          have HK := Lib.hid hok
          have HN := Lib.hid (hn.trans hok)
          clear hok hn
          go_wp2_with fail
          refine (pmay_ok HK.out _).mono ?_
          rintro e w2 ⟨rfl, rfl⟩
          have kz2 := (kz.alloc (.cells #[.int .i64 c.1, .int .i64 c.2] 24)).alloc (.cells #[.int .i64 c.1, .int .i64 c.2] 24)
          have kb2 := (kb.alloc kb.size (.cells #[.int .i64 c.1, .int .i64 c.2] 24)).alloc (by have := kb.size; simp; omega) (.cells #[.int .i64 c.1, .int .i64 c.2] 24)
          clear kz kb z0 z1 z2 f0 f1 f2
          go_wp2
          go_roundw
          case rel => exact ⟨k + 1, by go_num, by omega, HN.out, kz2, kb2⟩
          case measure => simp [intOf]; omega
      · obtain rfl : k = p.length := by omega
        have hr := HY.out (by have := HALL.out; rwa [List.take_length] at this)
        subst hr
        clear HO HY
        go_wp2_with fail
        refine (hcall.out (i, 0) _ kb).mono ?_
        rintro e w2 ⟨rfl, h2⟩
        have kz2 := kz.kept h2
        have kb2 := kb.trans (h2.mono kb.size)
        clear kz kb z0 z1 z2 f0 f1 f2
        obtain ⟨z0, z1, z2⟩ := kz2.cells
        obtain ⟨f0, f1, f2⟩ := kz2.free
        go_wp2
        refine bodyPost_ret (v := .tuple #[.agg #[.int .i64 i, .int .i64 (Sr.evalE p (i, 0)).1, .int .i64 (Sr.evalE p (i, 0)).2], .int .i64 0]) ?_ rfl ⟨rfl, ?_⟩
        · obtain ⟨d0, d1, d2⟩ := (kz2.set (.int .i64 i) (.int .i64 (Sr.evalE p (i, 0)).1) (.int .i64 (Sr.evalE p (i, 0)).2)).cells
          simp [results, Try.f12, go_sem, d0, d1, d2]
        · exact below_set3 (B := w.heap.size) kb2 (Nat.le_refl _) _ _ _

set_option maxHeartbeats 4000000 in
set_option maxRecDepth 100000 in
theorem rof_sh (v : Value) (p : List Ga.E) (i : Int) (w : World) (hv : FlatAt w v 2 (elems p)) (hlen : p.length ≤ 140737488351232) :
    Calls Try.prog 13 #[v, .int .i64 i] w fun e w' => e = .returned (.tuple #[shv (Sr.ofE p i).1, .int .i64 (Sr.ofE p i).2]) ∧ Below w.heap.size w w' := by
  have hrow := Lib.hid (fun (w' : World) (hb : Below w.heap.size w w') (h0 : 0 < p.length) => elems_row hv hb h0)
  have hcall := Lib.hid (fun (x : Ga.E) (W : World) (hb : Below w.heap.size w W) => reval_any v p x W (hv.below hb) hlen)
  obtain ⟨av, cv, rfl⟩ := hv.len (n := p.length) (elems_len p) (by omega)
  clear hv
  by_cases h1 : i < 1
  · have t1 : decide (i < (1 : Int)) = true := decide_eq_true h1
    have e : Sr.ofE p i = ((0, 0, 0), 1) := by
      rw [Sr.ofE, if_neg]
      simp [Sr.mayId]
      omega
    rw [e]
    clear e h1
    go_enter Try.func13, Try.ntmps13
    go_wp2
    have kb : Below w.heap.size w (w.alloc (.cells #[.int .i64 0, .int .i64 0, .int .i64 0] 27)) := (Below.refl _ _).alloc (Nat.le_refl _) _
    refine bodyPost_ret (v := .tuple #[.agg #[.int .i64 0, .int .i64 0, .int .i64 0], .int .i64 1]) ?_ rfl ⟨rfl, ?_⟩
    · simp [results, Try.f13, go_sem]
    · exact kb
  by_cases h2 : 64 < i
  · have t1 : decide (i < (1 : Int)) = false := decide_eq_false h1
    have t2 : decide ((64 : Int) < i) = true := decide_eq_true h2
    have e : Sr.ofE p i = ((0, 0, 0), 1) := by
      rw [Sr.ofE, if_neg]
      simp [Sr.mayId]
      omega
    rw [e]
    clear e h1 h2
    go_enter Try.func13, Try.ntmps13
    go_wp2
    have kb : Below w.heap.size w (w.alloc (.cells #[.int .i64 0, .int .i64 0, .int .i64 0] 27)) := (Below.refl _ _).alloc (Nat.le_refl _) _
    refine bodyPost_ret (v := .tuple #[.agg #[.int .i64 0, .int .i64 0, .int .i64 0], .int .i64 1]) ?_ rfl ⟨rfl, ?_⟩
    · simp [results, Try.f13, go_sem]
    · exact kb
  have hm : Sr.mayId i = true := by simp [Sr.mayId]; omega
  have ho : p.all Ga.ok = false → Sr.ofE p i = ((0, 0, 0), 1) := fun h => by simp [Sr.ofE, h]
  have hy : p.all Ga.ok = true → Sr.ofE p i = ((i, Sr.evalE p (i, 0)), 0) := fun h => by simp [Sr.ofE, h, hm]
  have HO := Lib.hid ho
  have HY := Lib.hid hy
  have t1 : decide (i < (1 : Int)) = false := decide_eq_false h1
  have t2 : decide ((64 : Int) < i) = false := decide_eq_false h2
  clear ho hy hm h1 h2
  obtain ⟨r, hr⟩ : ∃ r, Sr.ofE p i = r := ⟨_, rfl⟩
  rw [hr] at HO HY ⊢
  clear hr
  go_enter Try.func13, Try.ntmps13
  go_wp2_with fail
  have kz := KBox.new w 27 (.int .i64 0) (.int .i64 0) (.int .i64 0)
  have kb : Below w.heap.size w (w.alloc (.cells #[.int .i64 0, .int .i64 0, .int .i64 0] 27)) := (Below.refl _ _).alloc (Nat.le_refl _) _
  go_loopw [6] (fun t wr => ∃ k : Nat, t = .int .i64 k ∧ k ≤ p.length ∧ (p.take k).all Ga.ok = true ∧ KBox wr w.heap.size 27 (.int .i64 0) (.int .i64 0) (.int .i64 0) ∧ Below w.heap.size w wr) (fun t _ => p.length - (intOf t).toNat)
  case atStart => exact ⟨0, rfl, by omega, rfl, kz, kb⟩
  case round =>
    clear kz kb
    obtain ⟨k, rfl, hk, hall, kz, kb⟩ := hrel
    have HALL := Lib.hid hall
    clear hall
    obtain ⟨z0, z1, z2⟩ := kz.cells
    obtain ⟨f0, f1, f2⟩ := kz.free
    by_cases hlt : k < p.length
    · obtain ⟨b, off, cap, hv, hblt, hc⟩ := hrow.out _ kb (by omega)
      injection hv with e1 _ e2
      subst e1 e2
      obtain ⟨c0, c1⟩ := hc k hlt
      have hn := all_take p k hlt
      rw [HALL.out, Bool.true_and] at hn
      obtain ⟨c, hcj⟩ : ∃ c, p[k] = c := ⟨_, rfl⟩
      rw [hcj] at c0 c1 hn
      have HM' := Lib.hid (show c ∈ p from hcj ▸ List.getElem_mem hlt)
      clear hc hcj
      have ti : (k : Int) < (p.length : Int) := by omega
      cases hok : Ga.ok c with
      | false =>
        have hr : r = ((0, 0, 0), 1) := HO.out (by rw [List.all_eq_false]; exact ⟨c, HM'.out, by rw [hok]; simp⟩)
        subst hr
        have HK := Lib.hid hok
        clear hok hn HO HY
        go_wp2_with fail
        refine (rmay_ok HK.out _).mono ?_
        rintro e w2 ⟨rfl, rfl⟩
        have kz2 := kz.alloc (.cells #[.int .i64 c.1, .int .i64 c.2] 24)
        have kb2 := kb.alloc kb.size (.cells #[.int .i64 c.1, .int .i64 c.2] 24)
        clear kz kb z0 z1 z2 f0 f1 f2
        obtain ⟨z0, z1, z2⟩ := kz2.cells
        obtain ⟨f0, f1, f2⟩ := kz2.free
        go_wp2
        refine bodyPost_ret (v := .tuple #[.agg #[.int .i64 0, .int .i64 0, .int .i64 0], .int .i64 1]) ?_ rfl ⟨rfl, ?_⟩
        · obtain ⟨d0, d1, d2⟩ := (kz2.set (.int .i64 0) (.int .i64 0) (.int .i64 0)).cells
          simp [results, Try.f13, go_sem, d0, d1, d2]
        · exact below_set3 (B := w.heap.size) kb2 (Nat.le_refl _) _ _ _
      | true =>
        have HK := Lib.hid hok
        have HN := Lib.hid (hn.trans hok)
        clear hok hn
        go_wp2_with fail
        refine (rmay_ok HK.out _).mono ?_
        rintro e w2 ⟨rfl, rfl⟩
        have kz2 := kz.alloc (.cells #[.int .i64 c.1, .int .i64 c.2] 24)
        have kb2 := kb.alloc kb.size (.cells #[.int .i64 c.1, .int .i64 c.2] 24)
        clear kz kb z0 z1 z2 f0 f1 f2
        go_wp2
        go_roundw
        case rel => exact ⟨k + 1, by go_num, by omega, HN.out, kz2, kb2⟩
        case measure => simp [intOf]; omega
    · obtain rfl : k = p.length := by omega
      have hr := HY.out (by have := HALL.out; rwa [List.take_length] at this)
      subst hr
      clear HO HY
      go_wp2_with fail
      refine (hcall.out (i, 0) _ kb).mono ?_
      rintro e w2 ⟨rfl, h2⟩
      have kz2 := kz.kept h2
      have kb2 := kb.trans (h2.mono kb.size)
      clear kz kb z0 z1 z2 f0 f1 f2
      obtain ⟨z0, z1, z2⟩ := kz2.cells
      obtain ⟨f0, f1, f2⟩ := kz2.free
      go_wp2
      refine bodyPost_ret (v := .tuple #[.agg #[.int .i64 i, .int .i64 (Sr.evalE p (i, 0)).1, .int .i64 (Sr.evalE p (i, 0)).2], .int .i64 0]) ?_ rfl ⟨rfl, ?_⟩
      · obtain ⟨d0, d1, d2⟩ := (kz2.set (.int .i64 i) (.int .i64 (Sr.evalE p (i, 0)).1) (.int .i64 (Sr.evalE p (i, 0)).2)).cells
        simp [results, Try.f13, go_sem, d0, d1, d2]
      · exact below_set3 (B := w.heap.size) kb2 (Nat.le_refl _) _ _ _
end Go.Proofs.Ytngmkokmomficaa
