/- slices.Grow and slices.Concat at seals. -/
import Derived.Test.YtpodccgaigkalaaBookRef
import Derived.Lib.AppendZerosOnto
import Derived.Lib.SliceRun
import Derived.Lib.Walk
import Derived.Laws.AppendOwnNone
namespace Go.Proofs.Ytpodccgaigkalaa
open Go.RowKit

theorem info_sl : (Try.prog.info? 24).map (fun i => (i.zero, i.size, i.bytes)) = some (some (.agg #[.int .i64 0, .string ⟨#[]⟩]), 2, 24) := by kernel_rfl

/-- A new row of seals, with room for n. -/
theorem bgrow (n : Nat) (h0 : 0 < n) (hn : n ≤ 5864062014805) (w : World) :
    Calls Try.prog 35 #[.slice none 0 0, .int .i64 n] w fun e w' => ∃ v, e = .returned v ∧ w'.ownsRow w.heap.size 24 2 v 0 [] ∧ Below w.heap.size w w' ∧ ∃ g cap, v = .slice (some ⟨g, 0, none⟩) 0 cap := by
  obtain ⟨i0, hi, hz0, hz1, hz2⟩ := info_parts info_sl
  have hold : (Builtin.firstCells i0.size 0 (.slice none 0 0)).run Try.prog w.drew = .ok ([] : List Value).toArray w.drew := run_firstCells_none w.drew i0.size 0 0 0
  have hrz : ∀ ty, (Builtin.append_ #[22, 3] ty #[.slice none 0 0, .int .i64 (n : Int)]).run Try.prog w = _ := fun ty =>
    Lib.run_append_grow_zeros w 22 3 ty 24 i0 _ .i64 .i64 Try.underlying22 Try.underlying3 hi hz0 none 0 0 [] hold n h0 (by omega) (by omega) (by omega) (by rw [hz2]; omega)
      (by
        have := growslice_fits (need := 0 + n) (bytes := i0.bytes) (old := 0) (by omega) (by rw [hz2]; omega)
        exact this)
  have hGn : 0 + n ≤ grownCap w (0 + n) 0 24 := grownCap_ge w _ _ _
  have hGm : grownCap w (0 + n) 0 24 ≤ maxLen := grownCap_le_maxLen w _ _ _ (by unfold maxLen; omega)
  obtain ⟨G, hG⟩ : ∃ G, grownCap w (0 + n) 0 24 = G := ⟨_, rfl⟩
  rw [hG] at hGn hGm
  simp only [hG] at hrz
  obtain ⟨cur, hcur⟩ : ∃ cur, ([] : List Value).toArray ++ Builtin.zeroCells (Value.agg #[.int .i64 0, .string ⟨#[]⟩]).cells n ++ Builtin.zeroCells (Value.agg #[.int .i64 0, .string ⟨#[]⟩]).cells (G - (0 + n)) = cur := ⟨_, rfl⟩
  have hsize : cur.size = G * 2 := by
    rw [← hcur]
    have e : (Value.agg #[.int .i64 0, .string ⟨#[]⟩]).cells.size = 2 := by decide
    simp only [Array.size_append, size_zeroCells, e]
    simp
    omega
  simp only [hcur] at hrz
  have hown := World.ownsRow_made (base := w.heap.size) (e := 24) (size := 2) w.drew cur G (Nat.le_refl _) hGm hsize
  have hG63 : G ≤ 9223372036854775807 := hGm
  clear hold hG hcur hsize
  go_enter Try.func35, Try.ntmps35
  go_wp2_with (at_builtin; refine Lib.wpList_append_run _ rfl _ _ _ _ rfl _ _ rfl rfl _ _ (hrz _) ?_)
  go_ret
  exact ⟨_, rfl, hown, ((Below.refl _ _).drew).alloc (Nat.le_refl _) _, _, _, rfl⟩

/-- What is appended: nothing, or n seals from an address on. -/
def Src (w : World) (v : Value) (n : Nat) (cs : List Value) : Prop :=
  (v = .slice none 0 0 ∧ n = 0 ∧ cs = []) ∨ ∃ ad cap, v = .slice (some ad) n cap ∧ cs.length = n * 2 ∧ (∀ j u, cs[j]? = some u → w.cell? (ad.add j) = some u) ∧ ∀ u ∈ cs, u.oneCell' = true
theorem Src.below {w w' : World} {v : Value} {n : Nat} {cs : List Value} (h : Src w v n cs) (hb : Below w.heap.size w w') : Src w' v n cs := by
  rcases h with h | ⟨ad, cap, hv, hl, hc, h1⟩
  · exact .inl h
  · exact .inr ⟨ad, cap, hv, hl, fun j u hj => below_cell hb (hc j u hj), h1⟩

abbrev Part := Value × Nat × List Value
def sumN (vs : List Part) : Nat := (vs.map (·.2.1)).sum
def cat (vs : List Part) : List Value := (vs.map (·.2.2)).flatten
theorem sumN_app (a b : List Part) : sumN (a ++ b) = sumN a + sumN b := by
  unfold sumN; rw [List.map_append, List.sum_append]
theorem cat_app (a b : List Part) : cat (a ++ b) = cat a ++ cat b := by
  unfold cat; rw [List.map_append, List.flatten_append]
theorem sumN_step (vs : List Part) (k : Nat) (h : k < vs.length) : sumN (vs.take (k + 1)) = sumN (vs.take k) + vs[k].2.1 := by
  rw [List.take_succ_eq_append_getElem h, sumN_app]; simp [sumN]
theorem cat_step (vs : List Part) (k : Nat) (h : k < vs.length) : cat (vs.take (k + 1)) = cat (vs.take k) ++ vs[k].2.2 := by
  rw [List.take_succ_eq_append_getElem h, cat_app]; simp [cat]
theorem sumN_le (vs : List Part) (k : Nat) : sumN (vs.take k) ≤ sumN vs := by
  have := sumN_app (vs.take k) (vs.drop k)
  rw [List.take_append_drop] at this
  omega

set_option maxHeartbeats 2000000 in
theorem bconcat (B o c : Nat) (vs : List Part) (w : World) (hl : vs.length ≤ 64) (h0 : 0 < sumN vs) (hn : sumN vs ≤ 5864062014805)
    (hv : ∀ i (h : i < vs.length), w.cell? ⟨B, o + i, none⟩ = some vs[i].1) (hs : ∀ i (h : i < vs.length), Src w vs[i].1 vs[i].2.1 vs[i].2.2) :
    Calls Try.prog 27 #[.slice (some ⟨B, o, none⟩) vs.length c] w fun e w' => ∃ v, e = .returned v ∧ w'.ownsRow w.heap.size 24 2 v (sumN vs) (cat vs) ∧ Below w.heap.size w w' := by
  obtain ⟨i0, hi, hz0, hz1, hz2⟩ := info_parts info_sl
  have HV := Lib.hid hv
  have HS := Lib.hid hs
  have hstep := Lib.hid (sumN_step vs)
  have hcat := Lib.hid (cat_step vs)
  have hsl := Lib.hid (sumN_le vs)
  have hgr := fun W => bgrow (sumN vs) h0 hn W
  clear hv hs
  go_enter Try.func27, Try.ntmps27
  go_wp2_with fail
  go_loop [3, 5, 11] (fun s _ i => ∃ k : Nat, i = .int .i64 k ∧ k ≤ vs.length ∧ s = .int .i64 (sumN (vs.take k) : Nat)) (fun _ _ i => vs.length - (intOf i).toNat)
  case atStart => exact ⟨0, rfl, by omega, by simp [sumN]⟩
  case round =>
    obtain ⟨k, rfl, hk, rfl⟩ := hrel
    by_cases hlt : k < vs.length
    · have hc := HV.out k hlt
      have hsk := HS.out k hlt
      have e1 := hstep.out k hlt
      have e2 := hsl.out (k + 1)
      obtain ⟨⟨v, n, cs⟩, hx⟩ : ∃ x, vs[k] = x := ⟨_, rfl⟩
      rw [hx] at hc hsk e1
      simp only at hc hsk e1
      obtain ⟨S, hS⟩ : ∃ S, sumN (vs.take k) = S := ⟨_, rfl⟩
      obtain ⟨T, hT⟩ : ∃ T, sumN (vs.take (k + 1)) = T := ⟨_, rfl⟩
      rw [hS, hT] at e1
      rw [hT] at e2
      rw [hS]
      have HT := Lib.hid hT
      have hpos : decide ((S : Int) + (n : Int) < 0) = false := by simp; omega
      have hT2 : T = S + n := e1
      have HT2 := Lib.hid hT2
      have hbd : S + n ≤ 5864062014805 := by omega
      clear hx hS hT e1 e2 hT2
      rcases hsk with ⟨rfl, rfl, _⟩ | ⟨ad, cap, rfl, _, _, _⟩
      · go_wp2
        go_round
        case rel => exact ⟨k + 1, by go_num, hlt, by rw [HT.out, HT2.out]; go_num⟩
        case measure => simp [intOf]; omega
      · go_wp2
        go_round
        case rel => exact ⟨k + 1, by go_num, hlt, by rw [HT.out, HT2.out]; go_num⟩
        case measure => simp [intOf]; omega
    · obtain rfl : k = vs.length := by omega
      rw [List.take_length]
      go_wp2_with fail
      refine (hgr _).mono ?_
      rintro e w1 ⟨s1, rfl, hown, hb1, _⟩
      clear hgr
      go_wp2_with fail
      go_loopw [6, 8, 27] (fun s _ i wr => ∃ k : Nat, i = .int .i64 k ∧ k ≤ vs.length ∧ wr.ownsRow w.heap.size 24 2 s (sumN (vs.take k)) (cat (vs.take k)) ∧ Below w.heap.size w wr) (fun _ _ i _ => vs.length - (intOf i).toNat)
      case atStart => exact ⟨0, rfl, by omega, by simpa [sumN, cat] using hown, hb1⟩
      case round =>
        clear hown hb1
        obtain ⟨k, rfl, hk, hown, hbel⟩ := hrel
        by_cases hlt : k < vs.length
        · have hc := below_cell hbel (HV.out k hlt)
          have hsk := (HS.out k hlt).below hbel
          have e1 := hstep.out k hlt
          have e2 := hsl.out (k + 1)
          have e3 := hcat.out k hlt
          obtain ⟨⟨v, n, cs⟩, hx⟩ : ∃ x, vs[k] = x := ⟨_, rfl⟩
          rw [hx] at hc hsk e1 e3
          simp only at hc hsk e1 e3
          obtain ⟨S, hS⟩ : ∃ S, sumN (vs.take k) = S := ⟨_, rfl⟩
          obtain ⟨T, hT⟩ : ∃ T, sumN (vs.take (k + 1)) = T := ⟨_, rfl⟩
          rw [hS] at hown
          rw [hS, hT] at e1
          rw [hT] at e2
          have hT2 : T = S + n := e1
          have hbd : S + n ≤ 5864062014805 := by omega
          have HT2 := Lib.hid (hT.trans hT2)
          have HE3 := Lib.hid e3
          have hsz := hbel.size
          have HOWN := Lib.hid hown
          have HB := Lib.hid hbel
          clear hx hS hT e1 e2 hT2 e3 hown hbel
          rcases hsk with ⟨rfl, rfl, rfl⟩ | ⟨ad, cap, rfl, hln, hcn, h1⟩
          · go_wp2_with (at_builtin; refine wpList_append_own_none rfl _ _ 22 rfl w.heap.size 24 i0 2 Try.underlying22 hi _ _ _ rfl HOWN.out rfl ?_)
            go_roundw
            case rel => exact ⟨k + 1, by go_num, hlt, by rw [HT2.out, HE3.out, List.append_nil]; exact HOWN.out, HB.out⟩
            case measure => simp [intOf]; omega
          · have HLN := Lib.hid hln
            have HCN := Lib.hid hcn
            have H1 := Lib.hid h1
            clear hln hcn h1
            go_wp2_with (at_builtin; refine wpList_append_own _ rfl _ _ 22 rfl w.heap.size 24 i0 (.agg #[.int .i64 0, .string ⟨#[]⟩]) 2 24 Try.underlying22 hi hz0 hz1 hz2 rfl (by decide) _ _ _ rfl HOWN.out ad n cap cs rfl HLN.out HCN.out H1.out (by unfold maxLen; omega) (by omega) hsz ?_; intro v' w2 hown2 hgrow _; have hbel2 := HB.out.grown hgrow hsz (fun k hk => (HOWN.out.lt k hk).1); have HO2 := Lib.hid hown2; have HB2 := Lib.hid hbel2; clear hown2 hbel2 hgrow)
            go_roundw
            case rel => exact ⟨k + 1, by go_num, hlt, by rw [HT2.out, HE3.out]; exact HO2.out, HB2.out⟩
            case measure => simp [intOf]; omega
        · obtain rfl : k = vs.length := by omega
          rw [List.take_length] at hown
          have HOWN := Lib.hid hown
          clear hown
          go_wp2
          go_ret
          exact ⟨_, rfl, HOWN.out, hbel⟩
end Go.Proofs.Ytpodccgaigkalaa
