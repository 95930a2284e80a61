/- Package gauss as it landed: powers. -/
import Derived.Test.YtngmkokmomficaaGaussAd
namespace Go.Proofs.Ytngmkokmomficaa
open Go.RowKit

attribute [local go_sem] build_el build_el0 build_el1

theorem pmay_ok {x : Ga.E} {b : Bool} (h : Ga.ok x = b) (w : World) :
    Calls Try.prog 28 #[elv x] w fun e w' => e = .returned (.bool b) ∧ w' = w.alloc (.cells #[.int .i64 x.1, .int .i64 x.2] 24) := by
  cases b with
  | true => exact pmay_in _ _ (valid_ok h) w
  | false => exact pmay_out _ _ (not_valid h) w

theorem ppow_out (x : Ga.E) (n : Nat) (h : Ga.ok x = false) (w : World) :
    Calls Try.prog 44 #[elv x, .int .u64 n] w fun e w' => e = .returned (elv (0, 0)) ∧ Below w.heap.size w w' := by
  have hm := fun W => pmay_ok h W
  obtain ⟨a, b⟩ := x
  clear h
  go_enter Try.func44, Try.ntmps44
  go_wp2_with fail
  refine wp_scope_straight ?_
  go_wp2_with fail
  refine (hm _).mono ?_
  rintro e w1 ⟨rfl, rfl⟩
  go_wp2
  rw [Exit.noGoto_ret]
  refine bodyPost_ret (v := el 0 0) ?_ rfl ⟨rfl, ?_⟩
  · simp [results, Try.f44, go_sem]
  · refine Below.alloc (Below.alloc (Below.alloc (Below.refl _ _) ?_ _) ?_ _) ?_ _ <;> (first | exact Nat.le_refl _ | (simp only [World.size_alloc]; omega))

theorem powL_stop (f : Nat) (out x : Ga.E) (n : Nat) (h : n = 0) : Ga.powL f out x n = out := by
  subst h
  cases f with
  | zero => rfl
  | succ f => rw [Ga.powL, if_pos rfl]
theorem powL_odd (f : Nat) (out x p q : Ga.E) (n : Nat) (h0 : n < 2 ^ f) (h : n % 2 = 1) (hp : Ga.mul out x = p) (hq : Ga.mul x x = q) : ∃ g, n / 2 < 2 ^ g ∧ Ga.powL f out x n = Ga.powL g p q (n / 2) := by
  cases f with
  | zero => simp at h0; omega
  | succ f => exact ⟨f, by rw [Nat.pow_succ] at h0; omega, by rw [Ga.powL, if_neg (by omega), if_pos h, hp, hq]⟩
theorem powL_even (f : Nat) (out x q : Ga.E) (n : Nat) (h0 : n < 2 ^ f) (hn : n ≠ 0) (h : ¬ n % 2 = 1) (hq : Ga.mul x x = q) : ∃ g, n / 2 < 2 ^ g ∧ Ga.powL f out x n = Ga.powL g out q (n / 2) := by
  cases f with
  | zero => simp at h0; omega
  | succ f => exact ⟨f, by rw [Nat.pow_succ] at h0; omega, by rw [Ga.powL, if_neg hn, if_neg h, hq]⟩

/-- What holds at the label: the numbers in their blocks, and what is still to come. -/
def PowAt (B : Nat) (R : Ga.E) (w w' : World) (m : Nat) (p q : Ga.E) : Prop :=
  EBox w' B p ∧ EBox w' (B + 1) (0, 0) ∧ EBox w' (B + 1 + 1 + 1) q ∧ Below B w w' ∧ m < 18446744073709551616 ∧ ∃ f, m < 2 ^ f ∧ Ga.powL f q p m = R

set_option maxHeartbeats 4000000 in
set_option maxRecDepth 100000 in
theorem ppow_in (x : Ga.E) (n : Nat) (hn : n < 18446744073709551616) (h : Ga.ok x = true) (w : World) :
    Calls Try.prog 44 #[elv x, .int .u64 n] w fun e w' => e = .returned (elv (Ga.powL 64 (1, 0) x n)) ∧ Below w.heap.size w w' := by
  have hm := fun W => pmay_ok h W
  clear h
  obtain ⟨R, hR⟩ : ∃ R, Ga.powL 64 (1, 0) x n = R := ⟨_, rfl⟩
  rw [hR]
  go_enter Try.func44, Try.ntmps44
  go_wp2_with fail
  refine wp_scope_jumps 0 (fun a' w' => ∃ (m : Nat) (p q : Ga.E) (u6 u7 u8 u9 u10 u11 u12 u13 u14 u15 u16 u17 u18 u19 u20 u21 u22 u23 u24 : Value), a' = { tmps := #[elv x, .int .u64 m, .pointer (some ⟨w.heap.size, 0, none⟩), undef, .pointer (some ⟨w.heap.size + 1, 0, none⟩), .pointer (some ⟨w.heap.size + 1 + 1 + 1, 0, none⟩), u6, u7, u8, u9, u10, u11, u12, u13, u14, u15, u16, u17, u18, u19, u20, u21, u22, u23, u24], defers := [] }
     ∧ PowAt w.heap.size R w w' m p q) (fun a' _ => (intOf (a'.tmps.getD 1 undef)).toNat) rfl ?_ ?_
  · go_wp2_with fail
    refine (hm _).mono ?_
    rintro e w1 ⟨rfl, rfl⟩
    have h1 := (((EBox.new w x.1 x.2).alloc (.cells #[.int .i64 0, .int .i64 0] 24)).alloc (.cells #[.int .i64 x.1, .int .i64 x.2] 24)).alloc (.cells #[.int .i64 1, .int .i64 0] 24)
    have h2 := ((EBox.new (w.alloc (.cells #[.int .i64 x.1, .int .i64 x.2] 24)) 0 0).alloc (.cells #[.int .i64 x.1, .int .i64 x.2] 24)).alloc (.cells #[.int .i64 1, .int .i64 0] 24)
    have h3 := EBox.new (((w.alloc (.cells #[.int .i64 x.1, .int .i64 x.2] 24)).alloc (.cells #[.int .i64 0, .int .i64 0] 24)).alloc (.cells #[.int .i64 x.1, .int .i64 x.2] 24)) 1 0
    have hb : Below w.heap.size w ((((w.alloc (.cells #[.int .i64 x.1, .int .i64 x.2] 24)).alloc (.cells #[.int .i64 0, .int .i64 0] 24)).alloc (.cells #[.int .i64 x.1, .int .i64 x.2] 24)).alloc (.cells #[.int .i64 1, .int .i64 0] 24)) := by
      refine Below.alloc (Below.alloc (Below.alloc (Below.alloc (Below.refl _ _) ?_ _) ?_ _) ?_ _) ?_ _ <;> (first | exact Nat.le_refl _ | (simp only [World.size_alloc]; omega))
    simp only [World.size_alloc] at h2 h3
    go_wp2
    go_step3
    generalize (((w.alloc (.cells #[.int .i64 x.1, .int .i64 x.2] 24)).alloc (.cells #[.int .i64 0, .int .i64 0] 24)).alloc (.cells #[.int .i64 x.1, .int .i64 x.2] 24)).alloc (.cells #[.int .i64 1, .int .i64 0] 24) = w' at h1 h2 h3 hb ⊢
    have hf : n < 2 ^ 64 := hn
    have hp := hR
    have hm64 := hn
    obtain ⟨q, hq⟩ : ∃ q : Ga.E, q = (1, 0) := ⟨_, rfl⟩
    rw [← hq] at h3 hp
    clear hq
    generalize 64 = f at hf hp
    have hx : ∃ p : Ga.E, p = x := ⟨x, rfl⟩
    obtain ⟨p, hx⟩ := hx
    rw [← hx] at hp
    have h1 : EBox w' w.heap.size p := by rw [hx]; exact h1
    clear hx
    generalize hmn : n = m at *
    clear hmn
    by_cases h0 : m = 0
    · subst h0
      have hres : q = R := by rw [← hp]; exact (powL_stop _ _ _ _ rfl).symm
      subst hres
      obtain ⟨c20, c21, f20, f21⟩ := h1.facts
      obtain ⟨c40, c41, f40, f41⟩ := h2.facts
      obtain ⟨c50, c51, f50, f51⟩ := h3.facts
      clear hp hf hR hm
      go_wp2
      simp only [Exit.jump]
      refine bodyPost_ret (v := elv q) ?_ rfl ⟨rfl, ?_⟩
      · obtain ⟨d0, d1, _, _⟩ := (h2.set q.1 q.2).facts
        simp [results, Try.f44, go_sem, d0, d1]
      · exact (hb.setCell (p := ⟨w.heap.size + 1, 0, none⟩) (by simp) _).setCell (p := ⟨w.heap.size + 1, 1, none⟩) (by simp) _
    · have t0 : ((m : Int) == 0) = false := by rw [beq_eq_false_iff_ne]; omega
      obtain ⟨p2, hp2⟩ : ∃ z, Ga.mul p p = z := ⟨_, rfl⟩
      obtain ⟨c20, c21, f20, f21⟩ := h1.facts
      obtain ⟨c40, c41, f40, f41⟩ := h2.facts
      obtain ⟨c50, c51, f50, f51⟩ := h3.facts
      by_cases hodd : m % 2 = 1
      · have t1 : (bits BinOp.and IntKind.u64 (m : Int) 1 == 1) = true := by rw [and_one_u64 _ (by omega) (by omega), beq_iff_eq]; omega
        obtain ⟨q2, hq2⟩ : ∃ z, Ga.mul q p = z := ⟨_, rfl⟩
        obtain ⟨g, hg, hgr⟩ := powL_odd f q p q2 p2 m hf hodd hq2 hp2
        rw [hgr] at hp
        have HP := Lib.hid hp
        have HG := Lib.hid hg
        have HM := Lib.hid hp2
        have HQ := Lib.hid hq2
        have hhalf : m / 2 < m := by omega
        clear hp hg hgr hp2 hq2 hf hodd hR hm
        go_wp2_with fail
        refine (pmul_eq HQ.out _).mono ?_
        rintro e w1 ⟨rfl, hb1⟩
        have a1 := h1.kept hb1
        have a2 := h2.kept hb1
        have a3 := h3.kept hb1
        have ab := grow_trans hb hb1
        clear c20 c21 f20 f21 c40 c41 f40 f41 c50 c51 f50 f51 h1 h2 h3 hb hb1
        obtain ⟨c20, c21, f20, f21⟩ := a1.facts
        obtain ⟨c50, c51, f50, f51⟩ := a3.facts
        have b1 := (a1.other (w.heap.size + 1 + 1 + 1) 0 (.int .i64 q2.1) (by omega)).other (w.heap.size + 1 + 1 + 1) 1 (.int .i64 q2.2) (by omega)
        have b2 := (a2.other (w.heap.size + 1 + 1 + 1) 0 (.int .i64 q2.1) (by omega)).other (w.heap.size + 1 + 1 + 1) 1 (.int .i64 q2.2) (by omega)
        have b3 := a3.set q2.1 q2.2
        have bb := (ab.setCell (p := ⟨w.heap.size + 1 + 1 + 1, 0, none⟩) (by simp; omega) (.int .i64 q2.1)).setCell (p := ⟨w.heap.size + 1 + 1 + 1, 1, none⟩) (by simp; omega) (.int .i64 q2.2)
        go_wp2_with fail
        clear c20 c21 f20 f21 c50 c51 f50 f51 a1 a2 a3 ab
        refine (pmul_eq HM.out _).mono ?_
        rintro e w2 ⟨rfl, hb2⟩
        have e1 := b1.kept hb2
        have e2 := b2.kept hb2
        have e3 := b3.kept hb2
        have eb := grow_trans bb hb2
        clear b1 b2 b3 bb hb2
        obtain ⟨c20, c21, f20, f21⟩ := e1.facts
        go_wp2
        go_step3
        refine ⟨rfl, ⟨m / 2, p2, q2, _, _, _, _, _, _, _, _, _, _, _, _, _, _, _, _, _, _, _, rfl, e1.set p2.1 p2.2, (e2.other _ 0 _ (by omega)).other _ 1 _ (by omega), (e3.other _ 0 _ (by omega)).other _ 1 _ (by omega), (eb.setCell (p := ⟨w.heap.size, 0, none⟩) (by simp) _).setCell (p := ⟨w.heap.size, 1, none⟩) (by simp) _, by omega, g, HG.out, HP.out⟩⟩
      · have t1 : (bits BinOp.and IntKind.u64 (m : Int) 1 == 1) = false := by rw [and_one_u64 _ (by omega) (by omega), beq_eq_false_iff_ne]; omega
        obtain ⟨g, hg, hgr⟩ := powL_even f q p p2 m hf h0 hodd hp2
        rw [hgr] at hp
        have HP := Lib.hid hp
        have HG := Lib.hid hg
        have HM := Lib.hid hp2
        have hhalf : m / 2 < m := by omega
        clear hp hg hgr hp2 hf hodd hR hm
        go_wp2_with fail
        refine (pmul_eq HM.out _).mono ?_
        rintro e w2 ⟨rfl, hb2⟩
        have e1 := h1.kept hb2
        have e2 := h2.kept hb2
        have e3 := h3.kept hb2
        have eb := grow_trans hb hb2
        clear c20 c21 f20 f21 c40 c41 f40 f41 c50 c51 f50 f51 h1 h2 h3 hb hb2
        obtain ⟨c20, c21, f20, f21⟩ := e1.facts
        go_wp2
        go_step3
        refine ⟨rfl, ⟨m / 2, p2, q, _, _, _, _, _, _, _, _, _, _, _, _, _, _, _, _, _, _, _, rfl, e1.set p2.1 p2.2, (e2.other _ 0 _ (by omega)).other _ 1 _ (by omega), (e3.other _ 0 _ (by omega)).other _ 1 _ (by omega), (eb.setCell (p := ⟨w.heap.size, 0, none⟩) (by simp) _).setCell (p := ⟨w.heap.size, 1, none⟩) (by simp) _, by omega, g, HG.out, HP.out⟩⟩
  · rintro a' w' ⟨m, p, q, u6, u7, u8, u9, u10, u11, u12, u13, u14, u15, u16, u17, u18, u19, u20, u21, u22, u23, u24, rfl, h1, h2, h3, hb, hm64, f, hf, hp⟩
    by_cases h0 : m = 0
    · subst h0
      have hres : q = R := by rw [← hp]; exact (powL_stop _ _ _ _ rfl).symm
      subst hres
      obtain ⟨c20, c21, f20, f21⟩ := h1.facts
      obtain ⟨c40, c41, f40, f41⟩ := h2.facts
      obtain ⟨c50, c51, f50, f51⟩ := h3.facts
      clear hp hf hR hm
      go_wp2
      simp only [Exit.jump]
      refine bodyPost_ret (v := elv q) ?_ rfl ⟨rfl, ?_⟩
      · obtain ⟨d0, d1, _, _⟩ := (h2.set q.1 q.2).facts
        simp [results, Try.f44, go_sem, d0, d1]
      · exact (hb.setCell (p := ⟨w.heap.size + 1, 0, none⟩) (by simp) _).setCell (p := ⟨w.heap.size + 1, 1, none⟩) (by simp) _
    · have t0 : ((m : Int) == 0) = false := by rw [beq_eq_false_iff_ne]; omega
      obtain ⟨p2, hp2⟩ : ∃ z, Ga.mul p p = z := ⟨_, rfl⟩
      obtain ⟨c20, c21, f20, f21⟩ := h1.facts
      obtain ⟨c40, c41, f40, f41⟩ := h2.facts
      obtain ⟨c50, c51, f50, f51⟩ := h3.facts
      by_cases hodd : m % 2 = 1
      · have t1 : (bits BinOp.and IntKind.u64 (m : Int) 1 == 1) = true := by rw [and_one_u64 _ (by omega) (by omega), beq_iff_eq]; omega
        obtain ⟨q2, hq2⟩ : ∃ z, Ga.mul q p = z := ⟨_, rfl⟩
        obtain ⟨g, hg, hgr⟩ := powL_odd f q p q2 p2 m hf hodd hq2 hp2
        rw [hgr] at hp
        have HP := Lib.hid hp
        have HG := Lib.hid hg
        have HM := Lib.hid hp2
        have HQ := Lib.hid hq2
        have hhalf : m / 2 < m := by omega
        clear hp hg hgr hp2 hq2 hf hodd hR hm
        go_wp2_with fail
        refine (pmul_eq HQ.out _).mono ?_
        rintro e w1 ⟨rfl, hb1⟩
        have a1 := h1.kept hb1
        have a2 := h2.kept hb1
        have a3 := h3.kept hb1
        have ab := grow_trans hb hb1
        clear c20 c21 f20 f21 c40 c41 f40 f41 c50 c51 f50 f51 h1 h2 h3 hb hb1
        obtain ⟨c20, c21, f20, f21⟩ := a1.facts
        obtain ⟨c50, c51, f50, f51⟩ := a3.facts
        have b1 := (a1.other (w.heap.size + 1 + 1 + 1) 0 (.int .i64 q2.1) (by omega)).other (w.heap.size + 1 + 1 + 1) 1 (.int .i64 q2.2) (by omega)
        have b2 := (a2.other (w.heap.size + 1 + 1 + 1) 0 (.int .i64 q2.1) (by omega)).other (w.heap.size + 1 + 1 + 1) 1 (.int .i64 q2.2) (by omega)
        have b3 := a3.set q2.1 q2.2
        have bb := (ab.setCell (p := ⟨w.heap.size + 1 + 1 + 1, 0, none⟩) (by simp; omega) (.int .i64 q2.1)).setCell (p := ⟨w.heap.size + 1 + 1 + 1, 1, none⟩) (by simp; omega) (.int .i64 q2.2)
        go_wp2_with fail
        clear c20 c21 f20 f21 c50 c51 f50 f51 a1 a2 a3 ab
        refine (pmul_eq HM.out _).mono ?_
        rintro e w2 ⟨rfl, hb2⟩
        have e1 := b1.kept hb2
        have e2 := b2.kept hb2
        have e3 := b3.kept hb2
        have eb := grow_trans bb hb2
        clear b1 b2 b3 bb hb2
        obtain ⟨c20, c21, f20, f21⟩ := e1.facts
        go_wp2
        go_step3
        refine ⟨rfl, ⟨⟨m / 2, p2, q2, _, _, _, _, _, _, _, _, _, _, _, _, _, _, _, _, _, _, _, rfl, e1.set p2.1 p2.2, (e2.other _ 0 _ (by omega)).other _ 1 _ (by omega), (e3.other _ 0 _ (by omega)).other _ 1 _ (by omega), (eb.setCell (p := ⟨w.heap.size, 0, none⟩) (by simp) _).setCell (p := ⟨w.heap.size, 1, none⟩) (by simp) _, by omega, g, HG.out, HP.out⟩, by simp [intOf]; omega⟩⟩
      · have t1 : (bits BinOp.and IntKind.u64 (m : Int) 1 == 1) = false := by rw [and_one_u64 _ (by omega) (by omega), beq_eq_false_iff_ne]; omega
        obtain ⟨g, hg, hgr⟩ := powL_even f q p p2 m hf h0 hodd hp2
        rw [hgr] at hp
        have HP := Lib.hid hp
        have HG := Lib.hid hg
        have HM := Lib.hid hp2
        have hhalf : m / 2 < m := by omega
        clear hp hg hgr hp2 hf hodd hR hm
        go_wp2_with fail
        refine (pmul_eq HM.out _).mono ?_
        rintro e w2 ⟨rfl, hb2⟩
        have e1 := h1.kept hb2
        have e2 := h2.kept hb2
        have e3 := h3.kept hb2
        have eb := grow_trans hb hb2
        clear c20 c21 f20 f21 c40 c41 f40 f41 c50 c51 f50 f51 h1 h2 h3 hb hb2
        obtain ⟨c20, c21, f20, f21⟩ := e1.facts
        go_wp2
        go_step3
        refine ⟨rfl, ⟨⟨m / 2, p2, q, _, _, _, _, _, _, _, _, _, _, _, _, _, _, _, _, _, _, _, rfl, e1.set p2.1 p2.2, (e2.other _ 0 _ (by omega)).other _ 1 _ (by omega), (e3.other _ 0 _ (by omega)).other _ 1 _ (by omega), (eb.setCell (p := ⟨w.heap.size, 0, none⟩) (by simp) _).setCell (p := ⟨w.heap.size, 1, none⟩) (by simp) _, by omega, g, HG.out, HP.out⟩, by simp [intOf]; omega⟩⟩
end Go.Proofs.Ytngmkokmomficaa
