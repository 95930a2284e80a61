/- VoteGrows: the walk. -/
import Derived.Test.YtjngjmhhfhkbkaaVotIface
import Derived.Test.YtjngjmhhfhkbkaaVotOpen
namespace Vt
/-- What a vote that was given leaves: the old row, with one ballot more at place p, or none (p is then the end). -/
structure Grown (l m : List Bl) (b : Bl) (p : Nat) : Prop where
  low : ∀ i (h : i < m.length), i < p → ∃ h' : i < l.length, m[i] = l[i]
  at_ : ∀ (h : p < m.length), m[p] = b ∧ ∀ h' : p < l.length, ahead b l[p] = true
  high : ∀ i (h : i + 1 < m.length), p ≤ i → ∃ h' : i < l.length, m[i + 1] = l[i]
  whole : m.length ≤ p → m.length = l.length
  more : p < m.length → m.length = l.length + 1
theorem grown_give (l : List Bl) (low : Int) (b : Bl) (h : (give l low b).2 = 0) : ∃ p, Grown l (give l low b).1 b p := by
  have same : Grown l l b l.length := ⟨fun i h _ => ⟨h, rfl⟩, fun h => absurd h (by omega), fun i h h' => absurd h (by omega), fun _ => rfl, fun h => absurd h (by omega)⟩
  unfold give at h ⊢
  split at h
  · cases h
  · rename_i hm
    rw [if_neg hm]
    split at h
    · cases h
    · rename_i hl
      rw [if_neg hl]
      cases hf : find l b.1 b.2.1 with
      | some d =>
        simp only []
        split <;> exact ⟨_, same⟩
      | none =>
        simp only []
        have hple := place_le b l
        refine ⟨place b l, ?_, ?_, ?_, ?_, ?_⟩
        · intro i hi hip
          refine ⟨by omega, ?_⟩
          simp only [ins_place]
          rw [List.getElem_append_left (by rw [List.length_take]; omega), List.getElem_take]
        · intro h1
          constructor
          · simp only [ins_place]
            rw [List.getElem_append_right (by rw [List.length_take]; omega)]
            simp [List.length_take, Nat.min_eq_left hple]
          · intro h2
            exact place_at b l h2
        · intro i hi hip
          rw [ins_len] at hi
          refine ⟨by omega, ?_⟩
          simp only [ins_place]
          rw [List.getElem_append_right (by rw [List.length_take]; omega)]
          have e : i + 1 - (l.take (place b l)).length = (i - place b l) + 1 := by rw [List.length_take]; omega
          simp only [e, List.getElem_cons_succ, List.getElem_drop]
          congr 1
          omega
        · intro h1
          rw [ins_len] at h1
          omega
        · intro _
          exact ins_len b l
end Vt
namespace Go.Proofs.Ytjngjmhhfhkbkaa
open Go.RowKit Go.ChangeShapes Go.WideShapes Go.ChangeAt

set_option maxHeartbeats 8000000 in
set_option maxRecDepth 100000 in
theorem voteGrows_core (v : Value) (l : List Vt.Bl) (low : Int) (s : Vt.Bl) (W : World) (hv : BalAt W v l) (hl : l.length ≤ 4398046510976) :
    Calls Try.prog 8 #[v, .int .i64 low, bval s] W fun e W' => e = .returned (.bool true) ∧ Below W.heap.size W W' := by
  obtain ⟨m, c, hm⟩ : ∃ m c, Vt.give l low s = (m, c) := ⟨_, _, rfl⟩
  have hml : m.length ≤ l.length + 1 := by have := give_len l low s; rw [hm] at this; exact this
  have hsame : c ≠ 0 → m = l := by intro h; have := Vt.refused l low s; rw [hm] at this; exact this h
  have hgrown : c = 0 → ∃ p, Vt.Grown l m s p := by intro h; have := Vt.grown_give l low s; rw [hm] at this; exact this h
  have HSAME := Lib.hid hsame
  have HGROWN := Lib.hid hgrown
  have HM := Lib.hid hm
  have HV := Lib.hid hv
  obtain ⟨va, vc, hve⟩ := hv.len
  clear hm hsame hgrown hv
  obtain ⟨x, r, t⟩ := s
  simp only [iv, bval] at *
  obtain ⟨w0, hw0⟩ : ∃ w0, W.alloc (.cells #[.int .i64 x, .int .i64 r, tx t] 24) = w0 := ⟨_, rfl⟩
  have GR := Lib.hid (show Below W.heap.size W w0 by rw [← hw0]; exact (Below.refl _ _).alloc (Nat.le_refl _) _)
  have Q0 := Lib.hid (show w0.cell? ⟨W.heap.size, 0, none⟩ = some (.int .i64 x) by rw [← hw0]; simp)
  have Q1 := Lib.hid (show w0.cell? ⟨W.heap.size, 1, none⟩ = some (.int .i64 r) by rw [← hw0]; simp)
  have Q2 := Lib.hid (show w0.cell? ⟨W.heap.size, 2, none⟩ = some (tx t) by rw [← hw0]; simp)
  obtain ⟨C, hC⟩ : ∃ C, W.heap.size = C := ⟨_, rfl⟩
  rw [hC] at Q0 Q1 Q2
  subst hve
  go_enter Try.func8, Try.ntmps8
  go_wp2_with fail
  clear hw0
  refine (vtShown _).mono ?_
  rintro e w1 ⟨rfl, h1⟩
  have r0 := below_cell h1 Q0.out
  have r1 := below_cell h1 Q1.out
  have r2 := below_cell h1 Q2.out
  have g1 := GR.out.trans (h1.mono GR.out.size)
  clear h1 Q0 Q1 Q2
  go_wp2_with fail
  refine (pgive_eq (s := (x, r, t)) HM.out _ (HV.out.below g1) (by omega)).mono ?_
  rintro e w2 ⟨u, rfl, hu, h2⟩
  obtain ⟨ua, uc, rfl⟩ := hu.len
  have HU := Lib.hid hu
  replace r0 := below_cell h2 r0
  replace r1 := below_cell h2 r1
  replace r2 := below_cell h2 r2
  have g2 := grow_trans g1 h2
  have HL2 := Lib.hid (HV.out.below g2).flat
  have hsz2 := g2.size
  have G2 := Lib.hid g2
  clear hu h2 g1 g2
  by_cases hc : c = 0
  · subst hc
    obtain ⟨p, hp⟩ := HGROWN.out rfl
    have HP := Lib.hid hp
    clear hp HSAME HGROWN HM
    have hlen : m.length = l.length ∨ m.length = l.length + 1 := by
      rcases Nat.lt_or_ge p m.length with h | h
      · exact .inr (HP.out.more h)
      · exact .inl (HP.out.whole h)
    have t3 : ((0 : Int) != 0) = false := by decide
    have hok : (((m.length : Int) != (l.length : Int)) && ((m.length : Int) != (l.length : Int) + 1)) = false := by
      rcases hlen with h | h <;> simp [h]
    have hw1 : IntKind.i64.wrap ((l.length : Int) + 1) = (l.length : Int) + 1 := IntWalk.i64_in _ ⟨by omega, by omega⟩
    have HU2 := Lib.hid HU.out.flat
    have R0 := Lib.hid r0
    have R1 := Lib.hid r1
    have R2 := Lib.hid r2
    clear r0 r1 r2
    have atend : ∀ (i : Nat), i = m.length → (if i ≤ p then i else i - 1) = l.length := by
      rintro i rfl
      split
      · exact HP.out.whole (by omega)
      · have := HP.out.more (by omega)
        omega
    have HEND := Lib.hid atend
    clear atend hlen
    have HM2 := Lib.hid HU.out
    rcases (show (m.length = l.length ∨ m.length ≠ l.length) by omega) with hmm | hmm
    · have t4 : ((m.length : Int) != (l.length : Int)) = false := by simp [hmm]
      have HT4 := Lib.hid t4
      clear hmm hok
      go_wp2_with fail
      clear t4 t3
      go_loopw [10, 11] (fun a i wr => ∃ k : Nat, i = .int .i64 k ∧ a = .int .i64 (if k ≤ p then k else k - 1 : Nat) ∧ k ≤ m.length ∧ ∃ q, wr = w2.drewN q) (fun _ i _ => m.length - (intOf i).toNat)
      case atStart => exact ⟨0, rfl, by simp, by omega, 0, rfl⟩
      case round =>
        obtain ⟨k, rfl, rfl, hk, q, rfl⟩ := hrel
        by_cases hlt : k < m.length
        · have hmf := HM2.out.flat
          rcases flat_ballots hmf (Below.refl _ _) with ⟨hme, _⟩ | ⟨_, b, off, cap, hue, hc⟩
          · rw [hme] at hlt; simp at hlt
          simp only [Value.slice.injEq, true_and] at hue
          obtain ⟨rfl, rfl⟩ := hue
          obtain ⟨c1, c2, c3⟩ := hc k hlt
          have s0 := R0.out
          have s1 := R1.out
          have s2 := R2.out
          clear hmf hc
          by_cases hkp : k = p
          · subst hkp
            obtain ⟨hmb, hah⟩ := HP.out.at_ hlt
            have HNX := Lib.hid (show (.int .i64 (k : Nat) : Value) = .int .i64 (if k + 1 ≤ k then k + 1 else k + 1 - 1 : Nat) by rw [if_neg (by omega)]; rfl)
            have hcur : (if k ≤ k then k else k - 1) = k := by simp
            rw [hmb] at c1 c2 c3
            simp only [iv] at c1 c2 c3
            rw [hcur]
            have HAH := Lib.hid hah
            clear hah hmb hcur
            by_cases hpl : k < l.length
            · have hlf := HL2.out
              rcases flat_ballots hlf (Below.refl _ _) with ⟨hle, _⟩ | ⟨_, b', off', cap', hve, hc⟩
              · rw [hle] at hpl; simp at hpl
              simp only [Value.slice.injEq, true_and] at hve
              obtain ⟨rfl, rfl⟩ := hve
              obtain ⟨d1, d2, d3⟩ := hc k hpl
              have hah := HAH.out hpl
              obtain ⟨y, hy⟩ : ∃ y, l[k] = y := ⟨_, rfl⟩
              rw [hy] at d1 d2 d3 hah
              clear hy hc hlf
              obtain ⟨x', r', t'⟩ := y
              rw [Vt.ahead_iff] at hah
              simp only [iv] at d1 d2 d3 hah
              have j1 : (k : Int) < (l.length : Int) := by omega
              have j2 : (k : Int) < (m.length : Int) := by omega
              have j3 : (0 : Int) ≤ (k : Int) := by omega
              have j4 : (k : Int).toNat = k := by omega
              have hne : (x == x' && (r == r' && t == t')) = false := by
                rcases hah with h | ⟨_, h⟩
                · have : (r == r') = false := by rw [beq_eq_false_iff_ne]; omega
                  simp [this]
                · have : (x == x') = false := by rw [beq_eq_false_iff_ne]; omega
                  simp [this]
              clear hah
              rcases (show (x == x') = false ∨ ((x == x') = true ∧ (r == r') = false) ∨ ((x == x') = true ∧ (r == r') = true ∧ (t == t') = false) from by
                cases hx : x == x' <;> cases hr : r == r' <;> cases ht : t == t' <;> simp_all) with e1 | ⟨e1, e2⟩ | ⟨e1, e2, e3⟩
              · clear hne
                go_wp2_with fail
                go_quiet (fail)
                go_wp2_with fail
                go_quiet (fail)
                go_wp2
                go_roundw
                case rel => exact ⟨k + 1, by go_num, HNX.out, hlt, _, rfl⟩
                case measure => simp [intOf]; omega
              · clear hne
                go_wp2_with fail
                go_quiet (fail)
                go_wp2_with fail
                go_quiet (fail)
                go_wp2
                go_roundw
                case rel => exact ⟨k + 1, by go_num, HNX.out, hlt, _, rfl⟩
                case measure => simp [intOf]; omega
              · clear hne
                go_wp2_with fail
                go_quiet (fail)
                go_wp2_with fail
                go_quiet (fail)
                go_wp2
                go_roundw
                case rel => exact ⟨k + 1, by go_num, HNX.out, hlt, _, rfl⟩
                case measure => simp [intOf]; omega
            · have j1 : decide ((k : Int) < (l.length : Int)) = false := by rw [decide_eq_false_iff_not]; omega
              have j2 : (k : Int) < (m.length : Int) := by omega
              have j3 : (0 : Int) ≤ (k : Int) := by omega
              have j4 : (k : Int).toNat = k := by omega
              go_wp2_with fail
              go_quiet (fail)
              go_wp2_with fail
              go_quiet (fail)
              go_wp2
              go_roundw
              case rel => exact ⟨k + 1, by go_num, HNX.out, hlt, _, rfl⟩
              case measure => simp [intOf]; omega
          · obtain ⟨ai, hai, he, hcur, hnx⟩ : ∃ ai, ∃ h : ai < l.length, m[k] = l[ai] ∧ (if k ≤ p then k else k - 1) = ai ∧ (if k + 1 ≤ p then k + 1 else k + 1 - 1) = ai + 1 := by
              by_cases h : k < p
              · obtain ⟨h1, h2⟩ := HP.out.low k hlt h
                exact ⟨k, h1, h2, if_pos (by omega), if_pos (by omega)⟩
              · obtain ⟨j, rfl⟩ : ∃ j, k = j + 1 := ⟨k - 1, by omega⟩
                obtain ⟨h1, h2⟩ := HP.out.high j hlt (by omega)
                exact ⟨j, h1, h2, by rw [if_neg (by omega)]; rfl, by rw [if_neg (by omega)]; rfl⟩
            have HNX := Lib.hid (show (.int .i64 ((ai : Int) + 1) : Value) = .int .i64 (if k + 1 ≤ p then k + 1 else k + 1 - 1 : Nat) by rw [hnx]; rfl)
            rw [hcur]
            rw [he] at c1 c2 c3
            clear hnx hcur he hkp
            have hlf := HL2.out
            rcases flat_ballots hlf (Below.refl _ _) with ⟨hle, _⟩ | ⟨_, b', off', cap', hve, hc⟩
            · rw [hle] at hai; simp at hai
            simp only [Value.slice.injEq, true_and] at hve
            obtain ⟨rfl, rfl⟩ := hve
            obtain ⟨d1, d2, d3⟩ := hc ai hai
            obtain ⟨y, hy⟩ : ∃ y, l[ai] = y := ⟨_, rfl⟩
            rw [hy] at c1 c2 c3 d1 d2 d3
            clear hy hc hlf
            obtain ⟨x', r', t'⟩ := y
            simp only [iv] at c1 c2 c3 d1 d2 d3
            have j1 : (ai : Int) < (l.length : Int) := by omega
            have j2 : (k : Int) < (m.length : Int) := by omega
            have j3 : (0 : Int) ≤ (k : Int) := by omega
            have j4 : (k : Int).toNat = k := by omega
            have j5 : (0 : Int) ≤ (ai : Int) := by omega
            have j6 : (ai : Int).toNat = ai := by omega
            go_wp2_with fail
            go_quiet (fail)
            go_wp2
            go_roundw
            case rel => exact ⟨k + 1, by go_num, by first | exact HNX.out | (rw [← HNX.out]; go_num), hlt, _, rfl⟩
            case measure => simp [intOf]; omega
        · obtain rfl : k = m.length := by omega
          have he := HEND.out m.length rfl
          rw [he]
          go_wp2
          go_ret
          exact ⟨rfl, G2.out.trans ((grow_draws _ _).mono hsz2)⟩
    · have t4 : ((m.length : Int) != (l.length : Int)) = true := by rw [bne_iff_ne]; omega
      have t5 : ((m.length : Int) != (l.length : Int) + 1) = false := by simpa [t4] using hok
      clear hmm hok
      go_wp2_with fail
      clear t4 t5 t3
      go_loopw [10, 11] (fun a i wr => ∃ k : Nat, i = .int .i64 k ∧ a = .int .i64 (if k ≤ p then k else k - 1 : Nat) ∧ k ≤ m.length ∧ ∃ q, wr = w2.drewN q) (fun _ i _ => m.length - (intOf i).toNat)
      case atStart => exact ⟨0, rfl, by simp, by omega, 0, rfl⟩
      case round =>
        obtain ⟨k, rfl, rfl, hk, q, rfl⟩ := hrel
        by_cases hlt : k < m.length
        · have hmf := HM2.out.flat
          rcases flat_ballots hmf (Below.refl _ _) with ⟨hme, _⟩ | ⟨_, b, off, cap, hue, hc⟩
          · rw [hme] at hlt; simp at hlt
          simp only [Value.slice.injEq, true_and] at hue
          obtain ⟨rfl, rfl⟩ := hue
          obtain ⟨c1, c2, c3⟩ := hc k hlt
          have s0 := R0.out
          have s1 := R1.out
          have s2 := R2.out
          clear hmf hc
          by_cases hkp : k = p
          · subst hkp
            obtain ⟨hmb, hah⟩ := HP.out.at_ hlt
            have HNX := Lib.hid (show (.int .i64 (k : Nat) : Value) = .int .i64 (if k + 1 ≤ k then k + 1 else k + 1 - 1 : Nat) by rw [if_neg (by omega)]; rfl)
            have hcur : (if k ≤ k then k else k - 1) = k := by simp
            rw [hmb] at c1 c2 c3
            simp only [iv] at c1 c2 c3
            rw [hcur]
            have HAH := Lib.hid hah
            clear hah hmb hcur
            by_cases hpl : k < l.length
            · have hlf := HL2.out
              rcases flat_ballots hlf (Below.refl _ _) with ⟨hle, _⟩ | ⟨_, b', off', cap', hve, hc⟩
              · rw [hle] at hpl; simp at hpl
              simp only [Value.slice.injEq, true_and] at hve
              obtain ⟨rfl, rfl⟩ := hve
              obtain ⟨d1, d2, d3⟩ := hc k hpl
              have hah := HAH.out hpl
              obtain ⟨y, hy⟩ : ∃ y, l[k] = y := ⟨_, rfl⟩
              rw [hy] at d1 d2 d3 hah
              clear hy hc hlf
              obtain ⟨x', r', t'⟩ := y
              rw [Vt.ahead_iff] at hah
              simp only [iv] at d1 d2 d3 hah
              have j1 : (k : Int) < (l.length : Int) := by omega
              have j2 : (k : Int) < (m.length : Int) := by omega
              have j3 : (0 : Int) ≤ (k : Int) := by omega
              have j4 : (k : Int).toNat = k := by omega
              have hne : (x == x' && (r == r' && t == t')) = false := by
                rcases hah with h | ⟨_, h⟩
                · have : (r == r') = false := by rw [beq_eq_false_iff_ne]; omega
                  simp [this]
                · have : (x == x') = false := by rw [beq_eq_false_iff_ne]; omega
                  simp [this]
              clear hah
              rcases (show (x == x') = false ∨ ((x == x') = true ∧ (r == r') = false) ∨ ((x == x') = true ∧ (r == r') = true ∧ (t == t') = false) from by
                cases hx : x == x' <;> cases hr : r == r' <;> cases ht : t == t' <;> simp_all) with e1 | ⟨e1, e2⟩ | ⟨e1, e2, e3⟩
              · clear hne
                go_wp2_with fail
                go_quiet (fail)
                go_wp2_with fail
                go_quiet (fail)
                go_wp2
                go_roundw
                case rel => exact ⟨k + 1, by go_num, HNX.out, hlt, _, rfl⟩
                case measure => simp [intOf]; omega
              · clear hne
                go_wp2_with fail
                go_quiet (fail)
                go_wp2_with fail
                go_quiet (fail)
                go_wp2
                go_roundw
                case rel => exact ⟨k + 1, by go_num, HNX.out, hlt, _, rfl⟩
                case measure => simp [intOf]; omega
              · clear hne
                go_wp2_with fail
                go_quiet (fail)
                go_wp2_with fail
                go_quiet (fail)
                go_wp2
                go_roundw
                case rel => exact ⟨k + 1, by go_num, HNX.out, hlt, _, rfl⟩
                case measure => simp [intOf]; omega
            · have j1 : decide ((k : Int) < (l.length : Int)) = false := by rw [decide_eq_false_iff_not]; omega
              have j2 : (k : Int) < (m.length : Int) := by omega
              have j3 : (0 : Int) ≤ (k : Int) := by omega
              have j4 : (k : Int).toNat = k := by omega
              go_wp2_with fail
              go_quiet (fail)
              go_wp2_with fail
              go_quiet (fail)
              go_wp2
              go_roundw
              case rel => exact ⟨k + 1, by go_num, HNX.out, hlt, _, rfl⟩
              case measure => simp [intOf]; omega
          · obtain ⟨ai, hai, he, hcur, hnx⟩ : ∃ ai, ∃ h : ai < l.length, m[k] = l[ai] ∧ (if k ≤ p then k else k - 1) = ai ∧ (if k + 1 ≤ p then k + 1 else k + 1 - 1) = ai + 1 := by
              by_cases h : k < p
              · obtain ⟨h1, h2⟩ := HP.out.low k hlt h
                exact ⟨k, h1, h2, if_pos (by omega), if_pos (by omega)⟩
              · obtain ⟨j, rfl⟩ : ∃ j, k = j + 1 := ⟨k - 1, by omega⟩
                obtain ⟨h1, h2⟩ := HP.out.high j hlt (by omega)
                exact ⟨j, h1, h2, by rw [if_neg (by omega)]; rfl, by rw [if_neg (by omega)]; rfl⟩
            have HNX := Lib.hid (show (.int .i64 ((ai : Int) + 1) : Value) = .int .i64 (if k + 1 ≤ p then k + 1 else k + 1 - 1 : Nat) by rw [hnx]; rfl)
            rw [hcur]
            rw [he] at c1 c2 c3
            clear hnx hcur he hkp
            have hlf := HL2.out
            rcases flat_ballots hlf (Below.refl _ _) with ⟨hle, _⟩ | ⟨_, b', off', cap', hve, hc⟩
            · rw [hle] at hai; simp at hai
            simp only [Value.slice.injEq, true_and] at hve
            obtain ⟨rfl, rfl⟩ := hve
            obtain ⟨d1, d2, d3⟩ := hc ai hai
            obtain ⟨y, hy⟩ : ∃ y, l[ai] = y := ⟨_, rfl⟩
            rw [hy] at c1 c2 c3 d1 d2 d3
            clear hy hc hlf
            obtain ⟨x', r', t'⟩ := y
            simp only [iv] at c1 c2 c3 d1 d2 d3
            have j1 : (ai : Int) < (l.length : Int) := by omega
            have j2 : (k : Int) < (m.length : Int) := by omega
            have j3 : (0 : Int) ≤ (k : Int) := by omega
            have j4 : (k : Int).toNat = k := by omega
            have j5 : (0 : Int) ≤ (ai : Int) := by omega
            have j6 : (ai : Int).toNat = ai := by omega
            go_wp2_with fail
            go_quiet (fail)
            go_wp2
            go_roundw
            case rel => exact ⟨k + 1, by go_num, by first | exact HNX.out | (rw [← HNX.out]; go_num), hlt, _, rfl⟩
            case measure => simp [intOf]; omega
        · obtain rfl : k = m.length := by omega
          have he := HEND.out m.length rfl
          rw [he]
          go_wp2
          go_ret
          exact ⟨rfl, G2.out.trans ((grow_draws _ _).mono hsz2)⟩
  · have hml2 := HSAME.out hc
    subst hml2
    have t3 : (c != 0) = true := by rw [bne_iff_ne]; exact hc
    clear hc HSAME HGROWN
    go_wp2_with fail
    refine (rsame_eq (c := true) (by simp) _ HU.out.flat HL2.out (by omega)).mono ?_
    rintro e w3 ⟨rfl, h3⟩
    go_wp2_with fail
    go_ret
    exact ⟨rfl, grow_trans G2.out h3⟩

theorem voteGrows_walk {H : Type} (enc : TypeId × Value → H) (W : World) (base : Nat) (v0 : Value) (v1 : Value) (v2 : Value) (d0 : DataW H) (d1 : DataW H) (d2 : DataW H) (p0 : List MemPlace) (p1 : List MemPlace) (p2 : List MemPlace)
    (h0 : DataW.Trod enc Try.prog W 0 (fun _ => true) true 22 v0 d0 p0) (o0 : Value.okWide Try.prog W .any base 22 v0)
    (h1 : DataW.Trod enc Try.prog W 0 (fun _ => true) true 3 v1 d1 p1) (o1 : Value.okWide Try.prog W .any base 3 v1)
    (h2 : DataW.Trod enc Try.prog W 0 (fun _ => true) true 24 v2 d2 p2) (o2 : Value.okWide Try.prog W .any base 24 v2)
    (hsz : (DataW.weightsEach Try.prog [22, 3, 24] [d0, d1, d2]).all (· ≤ reachBytes) = true) :
    Calls Try.prog 8 #[v0, v1, v2] W fun e W' => e = .returned (.bool true) ∧ Below W.heap.size W W' := by
  simp only [DataW.weightsEach, List.all_append, Bool.and_eq_true] at hsz
  obtain ⟨a, len, cap, rfl⟩ := okWide_slice Try.underlying22 o0
  obtain ⟨n0, e0⟩ := h0
  obtain ⟨l, hv, hl⟩ := trod_ballots e0 hsz.1
  obtain ⟨low, _, _, rfl, _, _⟩ := open_i64 Try.underlying3 o1 h1
  obtain ⟨s, rfl⟩ := open_ballot o2 h2
  exact voteGrows_core _ l low s W hv hl
end Go.Proofs.Ytjngjmhhfhkbkaa
