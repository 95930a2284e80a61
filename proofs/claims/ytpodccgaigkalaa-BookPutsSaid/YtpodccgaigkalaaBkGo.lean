/- Package book as it landed: Clone, Has, may. -/
import Derived.Test.YtpodccgaigkalaaBkCmp
import Derived.Lib.BufferMore
namespace Go.Proofs.Ytpodccgaigkalaa
open Go.RowKit

theorem seal_one (l : List Bk.Sl) : ∀ u ∈ seals l, u.oneCell' = true := by
  intro u hu
  unfold seals at hu
  obtain ⟨s, _, hs⟩ := List.mem_flatMap.1 hu
  simp only [List.mem_cons, List.not_mem_nil, or_false] at hs
  rcases hs with rfl | rfl <;> rfl

/-- A book that came in, as what is cut and appended. -/
def BookAt (w : World) (v : Value) (l : List Bk.Sl) : Prop := (∃ a, v = .slice a 0 0 ∧ l = []) ∨ ∃ b off cap, v = .slice (some ⟨b, off, none⟩) l.length cap ∧ l.length ≤ cap ∧ cap ≤ maxLen ∧ ∀ k (h : k < l.length), w.cell? ⟨b, off + k * 2, none⟩ = some (iv l[k].1) ∧ w.cell? ⟨b, off + k * 2 + 1, none⟩ = some (tx l[k].2)
theorem BookAt.below {w w' : World} {v : Value} {l : List Bk.Sl} (h : BookAt w v l) (hb : Below w.heap.size w w') : BookAt w' v l := by
  rcases h with h | ⟨b, off, cap, hv, h1, h2, hc⟩
  · exact .inl h
  · exact .inr ⟨b, off, cap, hv, h1, h2, fun k hk => ⟨below_cell hb (hc k hk).1, below_cell hb (hc k hk).2⟩⟩

theorem clone_row {w : World} {b off : Nat} {l : List Bk.Sl} (hc : ∀ k (h : k < l.length), w.cell? ⟨b, off + k * 2, none⟩ = some (iv l[k].1) ∧ w.cell? ⟨b, off + k * 2 + 1, none⟩ = some (tx l[k].2)) :
    ∀ j u, (seals l)[j]? = some u → w.cell? ((⟨b, off, none⟩ : Addr).add j) = some u := by
  intro j u hj
  have hlt : j < (seals l).length := (List.getElem?_eq_some_iff.1 hj).1
  rw [seals_len] at hlt
  have ha : (⟨b, off, none⟩ : Addr).add j = ⟨b, off + j, none⟩ := by unfold Addr.add; split <;> simp_all
  rw [ha]
  obtain ⟨h1, h2⟩ := hc (j / 2) (by omega)
  obtain ⟨s1, s2⟩ := seals_at l (j / 2) (by omega)
  by_cases hm : j % 2 = 0
  · have e : j / 2 * 2 = j := by omega
    rw [e] at h1 s1
    rw [h1, ← s1, hj]
  · have e : j / 2 * 2 + 1 = j := by omega
    rw [e] at s2
    rw [Nat.add_assoc, e] at h2
    rw [h2, ← s2, hj]

theorem BookAt.own {w : World} {base : Nat} {v : Value} {l : List Bk.Sl} (h : w.ownsRow base 24 2 v l.length (seals l)) : BookAt w v l := by
  rcases h.2 with ⟨hv, h0⟩ | ⟨g, cap, cur, hv, _, _, h1, h2, _, _⟩
  · exact .inl ⟨none, hv, List.length_eq_zero_iff.1 h0⟩
  · refine .inr ⟨g, 0, cap, hv, h1, h2, fun k hk => ?_⟩
    obtain ⟨s1, s2⟩ := seals_at l k hk
    have c1 := h.cells (by rw [hv]; rfl) _ _ s1
    have c2 := h.cells (by rw [hv]; rfl) _ _ s2
    have ha : ∀ j, (⟨g, 0, none⟩ : Addr).add j = ⟨g, 0 + j, none⟩ := fun j => by unfold Addr.add; split <;> simp_all
    rw [ha] at c1 c2
    exact ⟨c1, c2⟩
theorem BookAt.flat {w : World} {v : Value} {l : List Bk.Sl} (h : BookAt w v l) : FlatAt w v 2 (seals l) := by
  rcases h with ⟨a, hv, rfl⟩ | ⟨b, off, cap, hv, h1, h2, hc⟩
  · exact .inl ⟨_, _, hv, rfl⟩
  · refine .inr ⟨b, off, l.length, cap, hv, seals_len l, fun i hi => ?_⟩
    have hr := clone_row hc i _ (List.getElem?_eq_getElem hi)
    have ha : (⟨b, off, none⟩ : Addr).add i = ⟨b, off + i, none⟩ := by unfold Addr.add; split <;> simp_all
    rw [ha] at hr
    exact hr
theorem BookAt.src {w : World} {v : Value} {l : List Bk.Sl} (h : BookAt w v l) : Src w v l.length (seals l) := by
  rcases h with ⟨a, hv, rfl⟩ | ⟨b, off, cap, hv, h1, h2, hc⟩
  · cases a with
    | none => exact .inl ⟨hv, rfl, rfl⟩
    | some ad => exact .inr ⟨ad, 0, hv, rfl, fun j u h => absurd h (by simp [seals]), seal_one _⟩
  · exact .inr ⟨_, cap, hv, seals_len l, clone_row hc, seal_one l⟩

set_option maxHeartbeats 1000000 in
theorem bclone (v : Value) (n : Nat) (cs : List Value) (w : World) (hs : Src w v n cs) (hn : n ≤ 5864062014805) :
    Calls Try.prog 23 #[v] w fun e w' => ∃ u, e = .returned u ∧ w'.ownsRow w.heap.size 24 2 u n cs ∧ Below w.heap.size w w' := by
  obtain ⟨i0, hi, hz0, hz1, hz2⟩ := info_parts info_sl
  rcases hs with ⟨rfl, rfl, rfl⟩ | ⟨ad, cap, rfl, hln, hcn, h1⟩
  · go_enter Try.func23, Try.ntmps23
    have hq := fun W => Lib.run_eql_slice_nil_nil (P := Try.prog) W (t := 22) 0 0 Try.underlying22
    go_wp2_with (rw [hq])
    go_ret
    exact ⟨_, rfl, World.ownsRow_nil _ _ _ _, Below.refl _ _⟩
  · have HLN := Lib.hid hln
    have hg : Below w.heap.size w (w.alloc (.cells #[] 24)) := (Below.refl _ _).alloc (Nat.le_refl _) _
    have HCN := Lib.hid (show ∀ j u, cs[j]? = some u → (w.alloc (.cells #[] 24)).cell? (ad.add j) = some u from fun j u hj => below_cell hg (hcn j u hj))
    have H1 := Lib.hid h1
    have hown := World.ownsRow_lit (base := w.heap.size) (e := 24) (size := 2) w #[] 0 (Nat.le_refl _) (by decide) rfl
    have HOWN := Lib.hid hown
    clear hln hcn h1 hown
    go_enter Try.func23, Try.ntmps23
    have hq := fun W => Lib.run_eql_slice_some_nil (P := Try.prog) W (t := 22) ad n cap Try.underlying22
    go_wp2_with (first | rw [hq] | (at_builtin; refine wpList_append_own _ rfl _ _ 22 rfl w.heap.size 24 i0 (.agg #[.int .i64 0, .string ⟨#[]⟩]) 2 24 Try.underlying22 hi hz0 hz1 hz2 rfl (by decide) _ 0 [] rfl HOWN.out ad n cap cs rfl HLN.out HCN.out H1.out (by unfold maxLen; omega) (by omega) (by simp) ?_; intro v' w2 hown2 hgrow _; have hbel2 := hg.grown hgrow (by simp) (fun k hk => (HOWN.out.lt k hk).1); have HO2 := Lib.hid hown2; have HB2 := Lib.hid hbel2; clear hown2 hbel2 hgrow))
    go_ret
    exact ⟨_, rfl, by simpa using HO2.out, HB2.out⟩

theorem pis_in (id : Int) (h1 : 1 ≤ id) (h2 : id ≤ 64) (w : World) :
    Calls Try.prog 37 #[.int .i64 id] w fun e w' => e = .returned (.bool true) ∧ w' = w := by
  have t1 : decide (1 ≤ id) = true := by simpa using h1
  have t2 : decide (id ≤ 64) = true := by simpa using h2
  clear h1 h2
  go_enter Try.func37, Try.ntmps37
  go_wp2
  go_ret
  exact ⟨rfl, rfl⟩
theorem pis_out (id : Int) (h : id < 1 ∨ 64 < id) (w : World) :
    Calls Try.prog 37 #[.int .i64 id] w fun e w' => e = .returned (.bool false) ∧ w' = w := by
  by_cases h1 : 1 ≤ id
  · have t1 : decide (1 ≤ id) = true := by simpa using h1
    have t2 : decide (id ≤ 64) = false := by simp; omega
    clear h1 h
    go_enter Try.func37, Try.ntmps37
    go_wp2
    go_ret
    exact ⟨rfl, rfl⟩
  · have t1 : decide (1 ≤ id) = false := by simpa using h1
    clear h1 h
    go_enter Try.func37, Try.ntmps37
    go_wp2
    go_ret
    exact ⟨rfl, rfl⟩

theorem wrap_pow (k : Nat) (h : k ≤ 63) : IntKind.u64.wrap ((2 : Int) ^ k) = ((2 ^ k : Nat) : Int) := by
  have h2 : (2 : Nat) ^ k ≤ 2 ^ 63 := Nat.pow_le_pow_right (by omega) h
  have e : ((2 ^ k : Nat) : Int) = (2 : Int) ^ k := by simp
  rw [← e]
  generalize 2 ^ k = x at h2
  exact IntWalk.u64_in _ ⟨by omega, by omega⟩
theorem pmask_in (k : Nat) (h : k ≤ 63) (w : World) :
    Calls Try.prog 38 #[.int .i64 (k + 1 : Nat)] w fun e w' => e = .returned (.int .u64 (2 ^ k : Nat)) ∧ w' = w := by
  go_enter Try.func38, Try.ntmps38
  go_wp2
  go_ret
  exact ⟨by rw [wrap_pow k h]; rfl, rfl⟩

theorem pput_in (v k : Nat) (hv : v < 18446744073709551616) (hk : k ≤ 63) (w : World) :
    Calls Try.prog 29 #[.int .u64 v, .int .i64 (k + 1 : Nat)] w fun e w' => e = .returned (.tuple #[.int .u64 (v ||| 2 ^ k : Nat), .int .i64 0]) ∧ w' = w := by
  have h2 : (2 : Nat) ^ k ≤ 2 ^ 63 := Nat.pow_le_pow_right (by omega) hk
  have hm := fun W => pmask_in k hk W
  have hi := fun W => pis_in ((k + 1 : Nat) : Int) (by omega) (by omega) W
  have hp : 2 ^ k < 18446744073709551616 := by generalize 2 ^ k = x at *; omega
  clear h2
  generalize 2 ^ k = p at *
  have hor := u64_or_nat v p hv hp
  have HO := Lib.hid hor
  clear hor
  go_enter Try.func29, Try.ntmps29
  go_wp2_with fail
  refine (hi _).mono ?_
  rintro e w1 ⟨rfl, rfl⟩
  go_wp2_with fail
  refine (hm _).mono ?_
  rintro e w1 ⟨rfl, rfl⟩
  go_wp2
  go_ret2
  exact ⟨by rw [HO.out]; rfl, rfl⟩
theorem pput_out (v : Nat) (id : Int) (h : id < 1 ∨ 64 < id) (w : World) :
    Calls Try.prog 29 #[.int .u64 v, .int .i64 id] w fun e w' => e = .returned (.tuple #[.int .u64 0, .int .i64 1]) ∧ w' = w := by
  go_enter Try.func29, Try.ntmps29
  go_wp2_with fail
  refine (pis_out id h _).mono ?_
  rintro e w1 ⟨rfl, rfl⟩
  clear h
  go_wp2
  go_ret2
  exact ⟨rfl, rfl⟩
theorem pput_any (v : Nat) (id : Int) (hv : v < 18446744073709551616) (w : World) :
    Calls Try.prog 29 #[.int .u64 v, .int .i64 id] w fun e w' => e = .returned (.tuple #[.int .u64 (Se.putR v id).1, .int .i64 (Se.putR v id).2]) ∧ w' = w := by
  by_cases h : 1 ≤ id ∧ id ≤ 64
  · obtain ⟨k, rfl⟩ : ∃ k : Nat, id = ((k + 1 : Nat) : Int) := ⟨id.toNat - 1, by omega⟩
    have e : Se.putR v ((k + 1 : Nat) : Int) = (v ||| 2 ^ k, 0) := by rw [Se.putR, if_pos h]; rfl
    rw [e]
    exact pput_in v k hv (by omega) w
  · have e : Se.putR v id = (0, 1) := by rw [Se.putR, if_neg h]
    rw [e]
    exact pput_out v id (by omega) w


theorem pbmay (id : Int) (w : World) : Calls Try.prog 22 #[.int .i64 id] w fun e w' => e = .returned (.bool (decide (1 ≤ id ∧ id ≤ 64))) ∧ w' = w := by
  by_cases h : 1 ≤ id ∧ id ≤ 64
  · rw [decide_eq_true h]
    obtain ⟨k, rfl⟩ : ∃ k : Nat, id = ((k + 1 : Nat) : Int) := ⟨id.toNat - 1, by omega⟩
    have hp := fun W => pput_in 0 k (by decide) (by omega) W
    clear h
    go_enter Try.func22, Try.ntmps22
    go_wp2_with fail
    refine (hp _).mono ?_
    rintro e w1 ⟨rfl, rfl⟩
    go_wp2
    go_ret
    exact ⟨rfl, rfl⟩
  · rw [decide_eq_false h]
    have hp := fun W => pput_out 0 id (by omega) W
    clear h
    go_enter Try.func22, Try.ntmps22
    go_wp2_with fail
    refine (hp _).mono ?_
    rintro e w1 ⟨rfl, rfl⟩
    go_wp2
    go_ret
    exact ⟨rfl, rfl⟩

set_option maxHeartbeats 2000000 in
theorem pbhas (v : Value) (l : List Bk.Sl) (s : Bk.Sl) (w : World) (hs : FlatAt w v 2 (seals l)) (hl : l.length ≤ 140737488351232) :
    Calls Try.prog 14 #[v, sv s] w fun e w' => e = .returned (.bool (Bk.has l s)) ∧ Below w.heap.size w w' := by
  obtain ⟨x, t⟩ := s
  simp only [sv, iv]
  have grown : Below w.heap.size w (w.alloc (Obj.cells #[Value.int IntKind.i64 x, tx t] 24)) := (Below.refl _ _).alloc (Nat.le_refl _) _
  rcases flat_seals hs grown with ⟨rfl, a, cap, rfl⟩ | ⟨h0, b, off, cap, rfl, hc⟩
  · go_enter Try.func14, Try.ntmps14
    go_wp2_with fail
    refine wp_loop_rounds 1 ?_
    rw [rounds_succ]
    go_wp2
    go_ret
    exact ⟨rfl, grown⟩
  · have HC := Lib.hid hc
    have GR := Lib.hid grown
    have s0' : (w.alloc (Obj.cells #[Value.int IntKind.i64 x, tx t] 24)).cell? ⟨w.heap.size, 0, none⟩ = some (.int .i64 x) := by simp
    have s1' : (w.alloc (Obj.cells #[Value.int IntKind.i64 x, tx t] 24)).cell? ⟨w.heap.size, 1, none⟩ = some (tx t) := by simp
    obtain ⟨w0, hw0⟩ : ∃ w0, w.alloc (Obj.cells #[Value.int IntKind.i64 x, tx t] 24) = w0 := ⟨_, rfl⟩
    have S0 := Lib.hid s0'
    have S1 := Lib.hid s1'
    clear hc hs grown s0' s1'
    go_enter Try.func14, Try.ntmps14
    go_wp2_with fail
    rw [hw0] at S0 S1 HC GR
    have hsz0 : w.heap.size < w0.heap.size := by rw [← hw0]; simp
    clear hw0
    go_loopw [6, 9] (fun _ i wr => ∃ k : Nat, i = .int .i64 k ∧ k ≤ l.length ∧ (∀ y ∈ l.take k, y ≠ (x, t)) ∧ Below w0.heap.size w0 wr) (fun _ i _ => l.length - (intOf i).toNat)
    case atStart => exact ⟨0, rfl, by omega, by simp, Below.refl _ _⟩
    case round =>
      obtain ⟨k, rfl, hk, hn, hbel⟩ := hrel
      have HN := Lib.hid hn
      have HB := Lib.hid hbel
      clear hn hbel
      by_cases hlt : k < l.length
      · obtain ⟨c1', c2'⟩ := HC.out k hlt
        have c1 := below_cell HB.out c1'
        have c2 := below_cell HB.out c2'
        have s0 := below_cell HB.out S0.out
        have s1 := below_cell HB.out S1.out
        have n1 : wr.heap.size ≠ b := World.new_ne wr _ c1
        have n2 : wr.heap.size ≠ w.heap.size := World.new_ne wr _ s0
        have n3 : ¬ w.heap.size = wr.heap.size := fun e => n2 e.symm
        clear c1' c2'
        obtain ⟨y, hy⟩ : ∃ y, l[k] = y := ⟨_, rfl⟩
        rw [hy] at c1 c2
        obtain ⟨z, u⟩ := y
        simp only [iv] at c1 c2
        have HY := Lib.hid hy
        clear hy
        have next : ¬ ((z, u) : Bk.Sl) = (x, t) → ∀ y ∈ l.take (k + 1), y ≠ (x, t) := by
          intro hne y hy
          rw [List.take_succ_eq_append_getElem hlt, List.mem_append, List.mem_singleton] at hy
          rcases hy with hy | rfl
          · exact HN.out y hy
          · rw [HY.out]; exact hne
        have HX := Lib.hid next
        have hb3 := HB.out.alloc HB.out.size (.cells #[.int .i64 z, tx u] 24)
        have HB3 := Lib.hid hb3
        clear next hb3
        have q0 := below_cell ((Below.refl _ wr).alloc (Nat.le_refl _) (.cells #[.int .i64 z, tx u] 24)) s0
        have q1 := below_cell ((Below.refl _ wr).alloc (Nat.le_refl _) (.cells #[.int .i64 z, tx u] 24)) s1
        by_cases hz : z = x
        · subst hz
          by_cases hu : u = t
          · subst hu
            have hf : Bk.has l (z, u) = true := by rw [Bk.has, decide_eq_true_iff, ← HY.out]; exact List.getElem_mem hlt
            have HF := Lib.hid hf
            clear hf
            go_wp2
            go_ret
            exact ⟨by rw [HF.out]; rfl, GR.out.trans (HB3.out.mono (by omega))⟩
          · have HM := Lib.hid (HX.out fun e => hu (congrArg Prod.snd e))
            go_wp2
            go_roundw
            case rel => exact ⟨k + 1, by go_num, hlt, HM.out, HB3.out⟩
            case measure => simp [intOf]; omega
        · have HM := Lib.hid (HX.out fun e => hz (congrArg Prod.fst e))
          go_wp2
          go_roundw
          case rel => exact ⟨k + 1, by go_num, hlt, HM.out, HB3.out⟩
          case measure => simp [intOf]; omega
      · obtain rfl : k = l.length := by omega
        have hf : Bk.has l (x, t) = false := by
          rw [Bk.has, decide_eq_false_iff_not]
          intro hm
          exact HN.out _ (by rw [List.take_length]; exact hm) rfl
        have HF := Lib.hid hf
        clear hf
        go_wp2
        go_ret
        exact ⟨by rw [HF.out]; rfl, GR.out.trans (HB.out.mono (by omega))⟩
end Go.Proofs.Ytpodccgaigkalaa
