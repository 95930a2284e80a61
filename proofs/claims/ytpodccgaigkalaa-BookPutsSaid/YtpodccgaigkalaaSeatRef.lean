/- The contracts of the document's answer of layer 5: List, Has. -/
import Derived.Test.YtpodccgaigkalaaSeatMath
import Derived.Test.YtpodccgaigkalaaBase
namespace Go.Proofs.Ytpodccgaigkalaa
open Go.RowKit

def ids (l : List Nat) : List Value := l.map fun (i : Nat) => iv (i : Int)

theorem info_int : (Try.prog.info? 3).map (fun i => (i.zero, i.size, i.bytes)) = some (some (.int .i64 0), 1, 8) := by kernel_rfl

set_option maxHeartbeats 2000000 in
theorem rlist_any (v : Nat) (hv : v < 18446744073709551616) (w : World) :
    Calls Try.prog 31 #[.int .u64 v] w fun e w' => ∃ s, e = .returned s ∧ FlatAt w' s 1 (ids (Se.list v)) ∧ Below w.heap.size w w' := by
  obtain ⟨i0, hi, hz0, hz1, hz2⟩ := info_parts info_int
  go_enter Try.func31, Try.ntmps31
  go_wp2_with fail
  go_loopw [0, 3, 4] (fun x s i wr => ∃ k : Nat, i = .int .i64 (k + 1 : Nat) ∧ k ≤ 64 ∧ x = .int .u64 (v / 2 ^ k : Nat) ∧ Below w.heap.size w wr ∧ wr.ownsRow w.heap.size 3 1 s (Se.listTo v k).length (ids (Se.listTo v k))) (fun _ _ i _ => 65 - (intOf i).toNat)
  case atStart => exact ⟨0, rfl, by omega, by simp, Below.refl _ _, ⟨by simp [ids, Se.listTo], .inl ⟨rfl, rfl⟩⟩⟩
  case round =>
    obtain ⟨k, rfl, hk, rfl, hbel, hown⟩ := hrel
    by_cases hlt : k < 64
    · have hx : v / 2 ^ k < 18446744073709551616 := Nat.lt_of_le_of_lt (Nat.div_le_self _ _) hv
      obtain ⟨x, hxe⟩ : ∃ x, v / 2 ^ k = x := ⟨_, rfl⟩
      rw [hxe] at hx
      have hnext : v / 2 ^ (k + 1) = x / 2 := by rw [Nat.pow_succ, ← Nat.div_div_eq_div_mul, hxe]
      have hll := Se.listTo_len v k
      by_cases hb : v.testBit k = true
      · have h1 : ((x : Int) % 2 == 1) = true := by
          have := (Se.half_bit v k).2 hb
          rw [hxe] at this
          rw [beq_iff_eq]; omega
        have hst : Se.listTo v (k + 1) = Se.listTo v k ++ [k + 1] := by rw [Se.listTo_step, if_pos hb]
        have HO := Lib.hid hown
        have HX := Lib.hid hxe
        have HN := Lib.hid hnext
        have HS := Lib.hid hst
        clear hown hxe hnext hst hb
        rw [HX.out]
        go_wp2_with (at_builtin; refine wpList_append_own _ rfl _ _ 49 rfl w.heap.size 3 i0 (.int .i64 0) 1 8 Try.underlying49 hi hz0 hz1 hz2 rfl (by decide) _ _ _ rfl (HO.out.alloc _) ⟨wr.heap.size, 0, none⟩ 1 1 [.int .i64 ((k : Int) + 1)] rfl rfl ?c1 ?c2 ?c3 ?c4 ?c5 ?_)
        case c1 => exact new_cell _ _ rfl _ _
        case c2 => intro u hu; simp at hu; subst hu; rfl
        case c3 => unfold maxLen; omega
        case c4 => omega
        case c5 => have := hbel.size; simp; omega
        intro s' w2 hown2 hgrow _
        have hsz := hbel.size
        have hown3 : w2.ownsRow w.heap.size 3 1 s' (Se.listTo v (k + 1)).length (ids (Se.listTo v (k + 1))) := by
          rw [HS.out]; simpa [ids, iv] using hown2
        have hbel2 : Below w.heap.size w w2 := (hbel.alloc hsz _).grown hgrow (by simp; omega) (fun k hk => (HO.out.lt k hk).1)
        have HO3 := Lib.hid hown3
        clear hown2 hown3 hgrow HO HS HX
        go_wp2
        go_roundw
        case rel => exact ⟨k + 1, by go_num, by omega, by rw [HN.out]; rfl, hbel2, HO3.out⟩
        case measure => simp [intOf]; omega
      · have h1 : ((x : Int) % 2 == 1) = false := by
          have : ¬ v / 2 ^ k % 2 = 1 := fun e => hb ((Se.half_bit v k).1 e)
          rw [hxe] at this
          rw [beq_eq_false_iff_ne]; omega
        have hst : Se.listTo v (k + 1) = Se.listTo v k := by rw [Se.listTo_step, if_neg hb, List.append_nil]
        rw [← hst] at hown
        have HO := Lib.hid hown
        have HX := Lib.hid hxe
        have HN := Lib.hid hnext
        clear hown hxe hnext hst hb
        rw [HX.out]
        go_wp2
        go_roundw
        case rel => exact ⟨k + 1, by go_num, by omega, by rw [HN.out]; rfl, hbel, HO.out⟩
        case measure => simp [intOf]; omega
    · obtain rfl : k = 64 := by omega
      have HO := Lib.hid hown
      clear hown
      go_wp2
      go_ret
      exact ⟨_, rfl, FlatAt.own HO.out, hbel⟩
theorem ids_len (l : List Nat) : (ids l).length = l.length * 1 := by simp [ids]
theorem ids_at (l : List Nat) (k : Nat) (h : k < l.length) : (ids l)[k]'(by simpa [ids] using h) = iv (l[k] : Nat) := by simp [ids]

/-- What a list of seats is, behind a call. -/
theorem rlist_open {w w' : World} {s : Value} {l : List Nat} (h : FlatAt w s 1 (ids l)) (hb : Below w.heap.size w w') :
    (l = [] ∧ ∃ a cap, s = .slice a 0 cap) ∨ ∃ b off cap, s = .slice (some ⟨b, off, none⟩) l.length cap ∧ ∀ k (hk : k < l.length), w'.cell? ⟨b, off + k, none⟩ = some (iv (l[k] : Nat)) := by
  by_cases h0 : l.length = 0
  · have e : l = [] := List.length_eq_zero_iff.1 h0
    obtain ⟨a, cap, rfl⟩ := h.len (n := l.length) (ids_len l) (by omega)
    subst e
    exact .inl ⟨rfl, _, _, rfl⟩
  · obtain ⟨b, off, cap, rfl, hc⟩ := h.at (n := l.length) (ids_len l) (by omega) (by omega)
    refine .inr ⟨b, off, cap, rfl, fun k hk => ?_⟩
    have := below_cell hb (hc k (by rw [ids_len]; omega))
    rw [this, ids_at l k hk]

theorem list_len64 (v : Nat) : (Se.list v).length ≤ 64 := Se.listTo_len v 64
theorem list_max (v : Nat) (k : Nat) (h : k < (Se.list v).length) : 1 ≤ (Se.list v)[k] ∧ (Se.list v)[k] ≤ 64 := by
  have := (Se.list_mem v (Se.list v)[k]).1 (List.getElem_mem h)
  exact ⟨this.1, this.2.1⟩

set_option maxHeartbeats 2000000 in
theorem rhas_any (v : Nat) (id : Int) (hv : v < 18446744073709551616) (w : World) :
    Calls Try.prog 39 #[.int .u64 v, .int .i64 id] w fun e w' => e = .returned (.bool (Se.has v id)) ∧ Below w.heap.size w w' := by
  have hl := list_len64 v
  have hhas := Se.has_iff v id
  have hmx := list_max v
  obtain ⟨l, hle⟩ : ∃ l, Se.list v = l := ⟨_, rfl⟩
  rw [hle] at hl hhas hmx
  have HL := Lib.hid hle
  have HH := Lib.hid hhas
  have HM := Lib.hid hmx
  clear hle hhas hmx
  go_enter Try.func39, Try.ntmps39
  go_wp2_with fail
  refine (rlist_any v hv _).mono ?_
  rintro e w1 ⟨s, rfl, hs, hb⟩
  rw [HL.out] at hs
  have hop := rlist_open hs (Below.refl _ _)
  have HB := Lib.hid hb
  clear hs hb
  rcases hop with ⟨rfl, a, cap, rfl⟩ | ⟨b, off, cap, rfl, hc⟩
  · have hf : Se.has v id = false := by
      rcases hx : Se.has v id with _ | _
      · rfl
      · obtain ⟨_, h, _⟩ := HH.out.1 hx; cases h
    have HF := Lib.hid hf
    clear hf
    go_wp2_with fail
    refine wp_loop_rounds 1 ?_
    rw [rounds_succ]
    go_wp2
    go_ret
    exact ⟨by rw [HF.out]; rfl, HB.out⟩
  · have HC := Lib.hid hc
    clear hc
    go_wp2_with fail
    go_loop [6] (fun i => ∃ k : Nat, i = .int .i64 k ∧ k ≤ l.length ∧ ∀ j (h : j < l.length), j < k → id ≠ (l[j] : Nat)) (fun i => l.length - (intOf i).toNat)
    case atStart => exact ⟨0, rfl, by omega, fun _ _ h => absurd h (by omega)⟩
    case round =>
      obtain ⟨k, rfl, hk, hno⟩ := hrel
      have HN := Lib.hid hno
      clear hno
      by_cases hlt : k < l.length
      · have hc := HC.out k hlt
        have hm := HM.out k hlt
        simp only [iv] at hc
        by_cases he : id = (l[k] : Nat)
        · have hx : (((l[k] : Nat) : Int) == id) = true := by rw [beq_iff_eq]; exact he.symm
          have hf : Se.has v id = true := HH.out.2 ⟨l[k], List.getElem_mem hlt, he⟩
          have HF := Lib.hid hf
          clear hf he hm
          go_wp2
          go_ret
          exact ⟨by rw [HF.out]; rfl, HB.out⟩
        · have hx : (((l[k] : Nat) : Int) == id) = false := by rw [beq_eq_false_iff_ne]; exact fun e => he e.symm
          have HE := Lib.hid he
          clear he hm
          go_wp2
          go_round
          case rel => exact ⟨k + 1, by go_num, hlt, fun j hj hjk => by
            by_cases e : j = k
            · subst e; exact HE.out
            · exact HN.out j hj (by omega)⟩
          case measure => simp [intOf]; omega
      · obtain rfl : k = l.length := by omega
        have hf : Se.has v id = false := by
          rcases hx : Se.has v id with _ | _
          · rfl
          · obtain ⟨i, hi, e⟩ := HH.out.1 hx
            obtain ⟨j, hj, hje⟩ := List.getElem_of_mem hi
            subst hje
            exact absurd e (HN.out j hj hj)
        have HF := Lib.hid hf
        clear hf
        go_wp2
        go_ret
        exact ⟨by rw [HF.out]; rfl, HB.out⟩
end Go.Proofs.Ytpodccgaigkalaa
