/- BookStays: the walk. -/
import Derived.Test.YtpodccgaigkalaaLBookOrder
import Derived.Test.YtpodccgaigkalaaOpenTexts
import Derived.Test.YtpodccgaigkalaaBookRight
namespace Bk
theorem in_step (l : List Sl) (s : Sl) (k : Nat) (h : k < l.length) : decide (s ∈ l.take (k + 1) ∧ inR s = true) = (decide (s ∈ l.take k ∧ inR s = true) || (decide (l[k] = s) && inR s)) := by
  rw [List.take_succ_eq_append_getElem h]
  have e : (s = l[k]) = (l[k] = s) := propext eq_comm
  simp only [List.mem_append, List.mem_singleton, e]
  by_cases h1 : s ∈ l.take k <;> by_cases h2 : l[k] = s <;> cases inR s <;> simp [h1, h2]
theorem put_grows (b : List Sl) (s : Sl) : (put b s).length = b.length ∨ (put b s).length = b.length + 1 := by
  rw [put_len]; split <;> omega
end Bk
namespace Go.Proofs.Ytpodccgaigkalaa
open Go.RowKit Go.ChangeShapes Go.WideShapes Go.ChangeAt

theorem phas_eq {v : Value} {l : List Bk.Sl} {s : Bk.Sl} {r : Bool} (h : Bk.has l s = r) (w : World) (hs : FlatAt w v 2 (seals l)) (hl : l.length ≤ 140737488351232) :
    Calls Try.prog 14 #[v, sv s] w fun e w' => e = .returned (.bool r) ∧ Below w.heap.size w w' := by subst h; exact pbhas v l s w hs hl
theorem rright_eq {v : Value} {l : List Bk.Sl} {r : Bool} (h : Bk.right l = r) (w : World) (hs : FlatAt w v 2 (seals l)) (hl : l.length ≤ 140737488351232) (ht : ∀ s ∈ l, s.2.length ≤ 140737488351232) :
    Calls Try.prog 17 #[v] w fun e w' => e = .returned (.bool r) ∧ Below w.heap.size w w' := by subst h; exact rright v l w hs hl ht

set_option maxHeartbeats 8000000 in
theorem bookStays_core (v : Value) (l : List Bk.Sl) (s : Bk.Sl) (W : World) (hv : BookAt W v l) (hl : l.length ≤ 5864062014634) (ht : ∀ y ∈ l, y.2.length ≤ 140737488351232) :
    Calls Try.prog 5 #[v, sv s] W fun e W' => e = .returned (.bool true) ∧ Below W.heap.size W W' := by
  have hln : ∀ k, (Bk.puts [] (l.take k)).length ≤ 5864062014634 := fun k => by
    have := Bk.puts_len (l.take k) []
    rw [List.length_take] at this
    simp only [List.length_nil] at this
    omega
  have HLN := Lib.hid hln
  have HST := Lib.hid (Bk.puts_step l [])
  have HIN := Lib.hid (Bk.in_step l s)
  have hR : Bk.right (Bk.puts [] l) = true := Bk.puts_right l [] rfl
  have HR := Lib.hid hR
  have hH : Bk.has (Bk.puts [] l) s = decide (s ∈ l ∧ Bk.inR s = true) := by
    rw [Bk.has]
    exact decide_eq_decide.mpr (by rw [Bk.puts_mem]; simp)
  have HH := Lib.hid hH
  have hT : ∀ y ∈ Bk.puts [] l, y.2.length ≤ 140737488351232 := by
    intro y hy
    rw [Bk.puts_mem] at hy
    rcases hy with hy | hy
    · cases hy
    · exact ht y hy.1
  have HT := Lib.hid hT
  have HV := Lib.hid hv
  obtain ⟨a0, cap0, rfl⟩ := hv.len
  clear hln hR hH hT hv ht
  obtain ⟨x, t⟩ := s
  have g0 : Below W.heap.size W (W.alloc (.cells #[.int .i64 x, tx t] 24)) := (Below.refl _ _).alloc (Nat.le_refl _) _
  have q0 : (W.alloc (.cells #[.int .i64 x, tx t] 24)).cell? ⟨W.heap.size, 0, none⟩ = some (.int .i64 x) := by simp
  have q1 : (W.alloc (.cells #[.int .i64 x, tx t] 24)).cell? ⟨W.heap.size, 1, none⟩ = some (tx t) := by simp
  have Q0 := Lib.hid q0
  have Q1 := Lib.hid q1
  have GR := Lib.hid g0
  clear q0 q1 g0
  simp only [sv, iv]
  go_enter Try.func5, Try.ntmps5
  go_wp2_with fail
  refine (bkShown _).mono ?_
  rintro e w1 ⟨rfl, h1⟩
  have R0 := Lib.hid (below_cell h1 Q0.out)
  have R1 := Lib.hid (below_cell h1 Q1.out)
  have G1 := Lib.hid (GR.out.trans (h1.mono (by simp)))
  clear h1 Q0 Q1
  go_wp2_with fail
  go_loopw [6, 7, 8, 9, 10] (fun b inn n i _ wr => ∃ k : Nat, i = .int .i64 k ∧ k ≤ l.length ∧ BookAt wr b (Bk.puts [] (l.take k)) ∧ n = .int .i64 ((Bk.puts [] (l.take k)).length : Nat) ∧ inn = .bool (decide (((x, t) : Bk.Sl) ∈ l.take k ∧ Bk.inR (x, t) = true)) ∧ wr.cell? ⟨W.heap.size, 0, none⟩ = some (.int .i64 x) ∧ wr.cell? ⟨W.heap.size, 1, none⟩ = some (tx t) ∧ Below W.heap.size W wr) (fun _ _ _ i _ _ => l.length - (intOf i).toNat)
  case atStart => exact ⟨0, rfl, by omega, .inl ⟨none, rfl, rfl⟩, rfl, by simp, R0.out, R1.out, G1.out⟩
  case round =>
    obtain ⟨k, rfl, hk, hb, rfl, rfl, p0, p1, hbel⟩ := hrel
    obtain ⟨ab, capb, rfl⟩ := hb.len
    have HBK := Lib.hid hb
    have HB := Lib.hid hbel
    have P0 := Lib.hid p0
    have P1 := Lib.hid p1
    clear hb hbel p0 p1
    by_cases hlt : k < l.length
    · rcases HV.out with ⟨_, _, e⟩ | ⟨bb, off, cap, e, _, _, hc⟩
      · exact absurd hlt (by rw [e]; simp)
      · simp only [Value.slice.injEq, true_and] at e
        obtain ⟨rfl, rfl⟩ := e
        obtain ⟨c1', c2'⟩ := hc k hlt
        have hs1 := HST.out k hlt
        have hin := HIN.out k hlt
        have l1 := HLN.out k
        have hi0 : (0 : Int) ≤ (k : Int) := by omega
        have hi1 : (k : Int) < (l.length : Int) := by omega
        obtain ⟨⟨z, u⟩, es⟩ : ∃ s, l[k] = s := ⟨_, rfl⟩
        rw [es] at c1' c2' hs1 hin
        simp only [iv] at c1' c2'
        have C1 := Lib.hid c1'
        have C2 := Lib.hid c2'
        obtain ⟨m, hm⟩ : ∃ m, Bk.puts [] (l.take k) = m := ⟨_, rfl⟩
        obtain ⟨m', hm'⟩ : ∃ m, Bk.puts [] (l.take (k + 1)) = m := ⟨_, rfl⟩
        obtain ⟨I, hI⟩ : ∃ I, decide (((x, t) : Bk.Sl) ∈ l.take k ∧ Bk.inR (x, t) = true) = I := ⟨_, rfl⟩
        obtain ⟨I', hI'⟩ : ∃ I, decide (((x, t) : Bk.Sl) ∈ l.take (k + 1) ∧ Bk.inR (x, t) = true) = I := ⟨_, rfl⟩
        rw [hm] at HBK l1 hs1
        rw [hm'] at hs1
        rw [hI, hI'] at hin
        rw [hm, hI]
        have hgr := Bk.put_grows m (z, u)
        rw [← hs1] at hgr
        have HS1 := Lib.hid hs1.symm
        have HM' := Lib.hid hm'
        have HI' := Lib.hid hI'
        clear hs1 hm hm' hI hI' c1' c2' hc es
        have next : ∀ I2 (_ : I' = I2) (L : Nat) (_ : m'.length = L), ∀ y wr2, BookAt wr2 y m' → wr2.cell? ⟨W.heap.size, 0, none⟩ = some (.int .i64 x) → wr2.cell? ⟨W.heap.size, 1, none⟩ = some (tx t) → Below W.heap.size W wr2 →
            ∃ k' : Nat, Value.int .i64 ((k : Int) + 1) = .int .i64 k' ∧ k' ≤ l.length ∧ BookAt wr2 y (Bk.puts [] (l.take k')) ∧ Value.int .i64 (L : Nat) = .int .i64 ((Bk.puts [] (l.take k')).length : Nat) ∧ Value.bool I2 = .bool (decide (((x, t) : Bk.Sl) ∈ l.take k' ∧ Bk.inR (x, t) = true)) ∧ wr2.cell? ⟨W.heap.size, 0, none⟩ = some (.int .i64 x) ∧ wr2.cell? ⟨W.heap.size, 1, none⟩ = some (tx t) ∧ Below W.heap.size W wr2 := by
          intro I2 hI2 L hL2 y wr2 hy h0 h1 hb2
          subst hI2
          subst hL2
          exact ⟨k + 1, by simp, hlt, by rw [HM'.out]; exact hy, by rw [HM'.out], by rw [HI'.out], h0, h1, hb2⟩
        have NEXT := Lib.hid next
        clear next
        rcases hgr with hL | hL
        · have hgt : decide (m.length < m'.length) = false := by rw [decide_eq_false_iff_not]; omega
          have HL := Lib.hid hL
          clear hL
          cases I with
          | true =>
            have II : Hid (I' = true) := Lib.hid (by rw [hin]; simp)
            clear hin
            have c1 := below_cell HB.out C1.out
            have c2 := below_cell HB.out C2.out
            go_wp2_with fail
            refine (pput_eq (s := (z, u)) HS1.out _ HBK.out (by omega)).mono ?_
            rintro e w4 ⟨p, rfl, hp, h4⟩
            obtain ⟨ap, capp, rfl⟩ := hp.len
            have HP := Lib.hid hp
            have d1 := below_cell h4 c1
            have d2 := below_cell h4 c2
            have e0 := below_cell h4 P0.out
            have e1 := below_cell h4 P1.out
            have G4 := Lib.hid (grow_trans HB.out h4)
            clear hp h4 c1 c2
            go_wp2
            go_quiet (fail)
            go_wp2
            go_roundw
            case rel =>
              have N := fun q => NEXT.out true II.out _ HL.out _ _ (HP.out.below (below_drewN (Below.refl _ w4) q)) (by simpa using e0) (by simpa using e1) (below_drewN G4.out q)
              exact N _
            case measure => simp [intOf]; omega
          | false =>
            rw [Bool.false_or] at hin
            by_cases hz : z = x
            · subst hz
              by_cases hu : u = t
              · subst hu
                rw [decide_eq_true rfl, Bool.true_and] at hin
                by_cases r1 : 1 ≤ z
                · have t1 : decide (1 ≤ z) = true := by simpa using r1
                  by_cases r2 : z ≤ 64
                  · have t2 : decide (z ≤ 64) = true := by simpa using r2
                    have II : Hid (I' = true) := Lib.hid (by rw [hin, Bk.inR]; simp; omega)
                    clear hin r1 r2
                    have c1 := below_cell HB.out C1.out
                    have c2 := below_cell HB.out C2.out
                    go_wp2_with fail
                    refine (pput_eq (s := (z, u)) HS1.out _ HBK.out (by omega)).mono ?_
                    rintro e w4 ⟨p, rfl, hp, h4⟩
                    obtain ⟨ap, capp, rfl⟩ := hp.len
                    have HP := Lib.hid hp
                    have d1 := below_cell h4 c1
                    have d2 := below_cell h4 c2
                    have e0 := below_cell h4 P0.out
                    have e1 := below_cell h4 P1.out
                    have G4 := Lib.hid (grow_trans HB.out h4)
                    clear hp h4 c1 c2
                    go_wp2
                    go_quiet (fail)
                    go_wp2
                    go_roundw
                    case rel =>
                      have N := fun q => NEXT.out true II.out _ HL.out _ _ (HP.out.below (below_drewN (Below.refl _ w4) q)) (by simpa using e0) (by simpa using e1) (below_drewN G4.out q)
                      exact N _
                    case measure => simp [intOf]; omega
                  · have t2 : decide (z ≤ 64) = false := by simpa using r2
                    have II : Hid (I' = false) := Lib.hid (by rw [hin, Bk.inR]; simp; omega)
                    clear hin r1 r2
                    have c1 := below_cell HB.out C1.out
                    have c2 := below_cell HB.out C2.out
                    go_wp2_with fail
                    refine (pput_eq (s := (z, u)) HS1.out _ HBK.out (by omega)).mono ?_
                    rintro e w4 ⟨p, rfl, hp, h4⟩
                    obtain ⟨ap, capp, rfl⟩ := hp.len
                    have HP := Lib.hid hp
                    have d1 := below_cell h4 c1
                    have d2 := below_cell h4 c2
                    have e0 := below_cell h4 P0.out
                    have e1 := below_cell h4 P1.out
                    have G4 := Lib.hid (grow_trans HB.out h4)
                    clear hp h4 c1 c2
                    go_wp2
                    go_quiet (fail)
                    go_wp2
                    go_roundw
                    case rel =>
                      have N := fun q => NEXT.out false II.out _ HL.out _ _ (HP.out.below (below_drewN (Below.refl _ w4) q)) (by simpa using e0) (by simpa using e1) (below_drewN G4.out q)
                      exact N _
                    case measure => simp [intOf]; omega
                · have t1 : decide (1 ≤ z) = false := by simpa using r1
                  have II : Hid (I' = false) := Lib.hid (by rw [hin, Bk.inR]; simp; omega)
                  clear hin r1
                  have c1 := below_cell HB.out C1.out
                  have c2 := below_cell HB.out C2.out
                  go_wp2_with fail
                  refine (pput_eq (s := (z, u)) HS1.out _ HBK.out (by omega)).mono ?_
                  rintro e w4 ⟨p, rfl, hp, h4⟩
                  obtain ⟨ap, capp, rfl⟩ := hp.len
                  have HP := Lib.hid hp
                  have d1 := below_cell h4 c1
                  have d2 := below_cell h4 c2
                  have e0 := below_cell h4 P0.out
                  have e1 := below_cell h4 P1.out
                  have G4 := Lib.hid (grow_trans HB.out h4)
                  clear hp h4 c1 c2
                  go_wp2
                  go_quiet (fail)
                  go_wp2
                  go_roundw
                  case rel =>
                    have N := fun q => NEXT.out false II.out _ HL.out _ _ (HP.out.below (below_drewN (Below.refl _ w4) q)) (by simpa using e0) (by simpa using e1) (below_drewN G4.out q)
                    exact N _
                  case measure => simp [intOf]; omega
              · have II : Hid (I' = false) := Lib.hid (by rw [hin]; simp [hu])
                clear hin
                have c1 := below_cell HB.out C1.out
                have c2 := below_cell HB.out C2.out
                go_wp2_with fail
                refine (pput_eq (s := (z, u)) HS1.out _ HBK.out (by omega)).mono ?_
                rintro e w4 ⟨p, rfl, hp, h4⟩
                obtain ⟨ap, capp, rfl⟩ := hp.len
                have HP := Lib.hid hp
                have d1 := below_cell h4 c1
                have d2 := below_cell h4 c2
                have e0 := below_cell h4 P0.out
                have e1 := below_cell h4 P1.out
                have G4 := Lib.hid (grow_trans HB.out h4)
                clear hp h4 c1 c2
                go_wp2
                go_quiet (fail)
                go_wp2
                go_roundw
                case rel =>
                  have N := fun q => NEXT.out false II.out _ HL.out _ _ (HP.out.below (below_drewN (Below.refl _ w4) q)) (by simpa using e0) (by simpa using e1) (below_drewN G4.out q)
                  exact N _
                case measure => simp [intOf]; omega
            · have II : Hid (I' = false) := Lib.hid (by rw [hin]; simp [hz])
              clear hin
              have c1 := below_cell HB.out C1.out
              have c2 := below_cell HB.out C2.out
              go_wp2_with fail
              refine (pput_eq (s := (z, u)) HS1.out _ HBK.out (by omega)).mono ?_
              rintro e w4 ⟨p, rfl, hp, h4⟩
              obtain ⟨ap, capp, rfl⟩ := hp.len
              have HP := Lib.hid hp
              have d1 := below_cell h4 c1
              have d2 := below_cell h4 c2
              have e0 := below_cell h4 P0.out
              have e1 := below_cell h4 P1.out
              have G4 := Lib.hid (grow_trans HB.out h4)
              clear hp h4 c1 c2
              go_wp2
              go_quiet (fail)
              go_wp2
              go_roundw
              case rel =>
                have N := fun q => NEXT.out false II.out _ HL.out _ _ (HP.out.below (below_drewN (Below.refl _ w4) q)) (by simpa using e0) (by simpa using e1) (below_drewN G4.out q)
                exact N _
              case measure => simp [intOf]; omega
        · have hgt : decide (m.length < m'.length) = true := by rw [decide_eq_true_iff]; omega
          have HL := Lib.hid hL
          clear hL
          cases I with
          | true =>
            have II : Hid (I' = true) := Lib.hid (by rw [hin]; simp)
            clear hin
            have c1 := below_cell HB.out C1.out
            have c2 := below_cell HB.out C2.out
            go_wp2_with fail
            refine (pput_eq (s := (z, u)) HS1.out _ HBK.out (by omega)).mono ?_
            rintro e w4 ⟨p, rfl, hp, h4⟩
            obtain ⟨ap, capp, rfl⟩ := hp.len
            have HP := Lib.hid hp
            have d1 := below_cell h4 c1
            have d2 := below_cell h4 c2
            have e0 := below_cell h4 P0.out
            have e1 := below_cell h4 P1.out
            have G4 := Lib.hid (grow_trans HB.out h4)
            clear hp h4 c1 c2
            go_wp2
            go_quiet (fail)
            go_wp2
            go_roundw
            case rel =>
              have N := fun q => NEXT.out true II.out _ HL.out _ _ (HP.out.below (below_drewN (Below.refl _ w4) q)) (by simpa using e0) (by simpa using e1) (below_drewN G4.out q)
              simp only [Int.natCast_add, Int.natCast_one] at N
              exact N _
            case measure => simp [intOf]; omega
          | false =>
            rw [Bool.false_or] at hin
            by_cases hz : z = x
            · subst hz
              by_cases hu : u = t
              · subst hu
                rw [decide_eq_true rfl, Bool.true_and] at hin
                by_cases r1 : 1 ≤ z
                · have t1 : decide (1 ≤ z) = true := by simpa using r1
                  by_cases r2 : z ≤ 64
                  · have t2 : decide (z ≤ 64) = true := by simpa using r2
                    have II : Hid (I' = true) := Lib.hid (by rw [hin, Bk.inR]; simp; omega)
                    clear hin r1 r2
                    have c1 := below_cell HB.out C1.out
                    have c2 := below_cell HB.out C2.out
                    go_wp2_with fail
                    refine (pput_eq (s := (z, u)) HS1.out _ HBK.out (by omega)).mono ?_
                    rintro e w4 ⟨p, rfl, hp, h4⟩
                    obtain ⟨ap, capp, rfl⟩ := hp.len
                    have HP := Lib.hid hp
                    have d1 := below_cell h4 c1
                    have d2 := below_cell h4 c2
                    have e0 := below_cell h4 P0.out
                    have e1 := below_cell h4 P1.out
                    have G4 := Lib.hid (grow_trans HB.out h4)
                    clear hp h4 c1 c2
                    go_wp2
                    go_quiet (fail)
                    go_wp2
                    go_roundw
                    case rel =>
                      have N := fun q => NEXT.out true II.out _ HL.out _ _ (HP.out.below (below_drewN (Below.refl _ w4) q)) (by simpa using e0) (by simpa using e1) (below_drewN G4.out q)
                      simp only [Int.natCast_add, Int.natCast_one] at N
                      exact N _
                    case measure => simp [intOf]; omega
                  · have t2 : decide (z ≤ 64) = false := by simpa using r2
                    have II : Hid (I' = false) := Lib.hid (by rw [hin, Bk.inR]; simp; omega)
                    clear hin r1 r2
                    have c1 := below_cell HB.out C1.out
                    have c2 := below_cell HB.out C2.out
                    go_wp2_with fail
                    refine (pput_eq (s := (z, u)) HS1.out _ HBK.out (by omega)).mono ?_
                    rintro e w4 ⟨p, rfl, hp, h4⟩
                    obtain ⟨ap, capp, rfl⟩ := hp.len
                    have HP := Lib.hid hp
                    have d1 := below_cell h4 c1
                    have d2 := below_cell h4 c2
                    have e0 := below_cell h4 P0.out
                    have e1 := below_cell h4 P1.out
                    have G4 := Lib.hid (grow_trans HB.out h4)
                    clear hp h4 c1 c2
                    go_wp2
                    go_quiet (fail)
                    go_wp2
                    go_roundw
                    case rel =>
                      have N := fun q => NEXT.out false II.out _ HL.out _ _ (HP.out.below (below_drewN (Below.refl _ w4) q)) (by simpa using e0) (by simpa using e1) (below_drewN G4.out q)
                      simp only [Int.natCast_add, Int.natCast_one] at N
                      exact N _
                    case measure => simp [intOf]; omega
                · have t1 : decide (1 ≤ z) = false := by simpa using r1
                  have II : Hid (I' = false) := Lib.hid (by rw [hin, Bk.inR]; simp; omega)
                  clear hin r1
                  have c1 := below_cell HB.out C1.out
                  have c2 := below_cell HB.out C2.out
                  go_wp2_with fail
                  refine (pput_eq (s := (z, u)) HS1.out _ HBK.out (by omega)).mono ?_
                  rintro e w4 ⟨p, rfl, hp, h4⟩
                  obtain ⟨ap, capp, rfl⟩ := hp.len
                  have HP := Lib.hid hp
                  have d1 := below_cell h4 c1
                  have d2 := below_cell h4 c2
                  have e0 := below_cell h4 P0.out
                  have e1 := below_cell h4 P1.out
                  have G4 := Lib.hid (grow_trans HB.out h4)
                  clear hp h4 c1 c2
                  go_wp2
                  go_quiet (fail)
                  go_wp2
                  go_roundw
                  case rel =>
                    have N := fun q => NEXT.out false II.out _ HL.out _ _ (HP.out.below (below_drewN (Below.refl _ w4) q)) (by simpa using e0) (by simpa using e1) (below_drewN G4.out q)
                    simp only [Int.natCast_add, Int.natCast_one] at N
                    exact N _
                  case measure => simp [intOf]; omega
              · have II : Hid (I' = false) := Lib.hid (by rw [hin]; simp [hu])
                clear hin
                have c1 := below_cell HB.out C1.out
                have c2 := below_cell HB.out C2.out
                go_wp2_with fail
                refine (pput_eq (s := (z, u)) HS1.out _ HBK.out (by omega)).mono ?_
                rintro e w4 ⟨p, rfl, hp, h4⟩
                obtain ⟨ap, capp, rfl⟩ := hp.len
                have HP := Lib.hid hp
                have d1 := below_cell h4 c1
                have d2 := below_cell h4 c2
                have e0 := below_cell h4 P0.out
                have e1 := below_cell h4 P1.out
                have G4 := Lib.hid (grow_trans HB.out h4)
                clear hp h4 c1 c2
                go_wp2
                go_quiet (fail)
                go_wp2
                go_roundw
                case rel =>
                  have N := fun q => NEXT.out false II.out _ HL.out _ _ (HP.out.below (below_drewN (Below.refl _ w4) q)) (by simpa using e0) (by simpa using e1) (below_drewN G4.out q)
                  simp only [Int.natCast_add, Int.natCast_one] at N
                  exact N _
                case measure => simp [intOf]; omega
            · have II : Hid (I' = false) := Lib.hid (by rw [hin]; simp [hz])
              clear hin
              have c1 := below_cell HB.out C1.out
              have c2 := below_cell HB.out C2.out
              go_wp2_with fail
              refine (pput_eq (s := (z, u)) HS1.out _ HBK.out (by omega)).mono ?_
              rintro e w4 ⟨p, rfl, hp, h4⟩
              obtain ⟨ap, capp, rfl⟩ := hp.len
              have HP := Lib.hid hp
              have d1 := below_cell h4 c1
              have d2 := below_cell h4 c2
              have e0 := below_cell h4 P0.out
              have e1 := below_cell h4 P1.out
              have G4 := Lib.hid (grow_trans HB.out h4)
              clear hp h4 c1 c2
              go_wp2
              go_quiet (fail)
              go_wp2
              go_roundw
              case rel =>
                have N := fun q => NEXT.out false II.out _ HL.out _ _ (HP.out.below (below_drewN (Below.refl _ w4) q)) (by simpa using e0) (by simpa using e1) (below_drewN G4.out q)
                simp only [Int.natCast_add, Int.natCast_one] at N
                exact N _
              case measure => simp [intOf]; omega
    · obtain rfl : k = l.length := by omega
      have l1 := HLN.out l.length
      have hh := HH.out
      rw [List.take_length] at HBK l1
      simp only [List.take_length]
      obtain ⟨I, hI⟩ : ∃ I, decide (((x, t) : Bk.Sl) ∈ l ∧ Bk.inR (x, t) = true) = I := ⟨_, rfl⟩
      rw [hI] at hh
      rw [hI]
      have HI := Lib.hid hh
      clear hh hI
      obtain ⟨m, hm⟩ : ∃ m, Bk.puts [] l = m := ⟨_, rfl⟩
      rw [hm] at HBK HI HR HT l1
      rw [hm]
      clear hm
      go_wp2_with fail
      refine (rright_eq HR.out _ HBK.out.flat (by omega) HT.out).mono ?_
      rintro e w2 ⟨rfl, h2⟩
      have g2 := grow_trans HB.out h2
      have e0 := below_cell h2 P0.out
      have e1 := below_cell h2 P1.out
      go_wp2_with fail
      refine (phas_eq (s := (x, t)) HI.out _ (HBK.out.below h2).flat (by omega)).mono ?_
      rintro e w3 ⟨rfl, h3⟩
      have g3 := grow_trans g2 h3
      go_wp2_with fail
      go_ret
      exact ⟨rfl, g3⟩
theorem bookStays_walk {H : Type} (enc : TypeId × Value → H) (W : World) (base : Nat) (v0 : Value) (v1 : Value) (d0 : DataW H) (d1 : DataW H) (p0 : List MemPlace) (p1 : List MemPlace)
    (h0 : DataW.Trod enc Try.prog W 0 (fun _ => true) true 22 v0 d0 p0) (o0 : Value.okWide Try.prog W .any base 22 v0)
    (h1 : DataW.Trod enc Try.prog W 0 (fun _ => true) true 24 v1 d1 p1) (o1 : Value.okWide Try.prog W .any base 24 v1)
    (hsz : (DataW.weightsEach Try.prog [22, 24] [d0, d1]).all (· ≤ reachBytes) = true) :
    Calls Try.prog 5 #[v0, v1] W fun e W' => e = .returned (.bool true) ∧ Below W.heap.size W W' := by
  obtain ⟨a, len, cap, rfl⟩ := okWide_slice Try.underlying22 o0
  obtain ⟨n0, e0⟩ := h0
  obtain ⟨s, rfl⟩ := open_seal o1 h1
  simp only [DataW.weightsEach, List.all_append, Bool.and_eq_true] at hsz
  obtain ⟨l, hv, hl, ht⟩ := trod_seals2 e0 hsz.1
  exact bookStays_core _ l s W hv hl ht
end Go.Proofs.Ytpodccgaigkalaa
