/- Have all shares their own number? The program's answer, by a set; the document's. (Written by gen-shapart.py.) -/
import Derived.Test.YtngmkokmomficaaShOf
import Derived.Maps.OwnSet
namespace Go.Proofs.Ytngmkokmomficaa
open Go.RowKit Go.Maps

theorem kInt : Keyed Try.prog 3 := int_keyed Try.underlying3
theorem zeroUnit (w : World) : (zeroValue 65).run Try.prog w = .ok (.agg #[]) w := by kernel_rfl
def Sd (l : List Int) (k : Nat) : DataW Unit := setOf (.agg []) ((l.take k).map (Lit.int .i64))
theorem any_int (x : Int) (l : List Int) : l.any ((fun y => y.sameKey (Lit.int .i64 x)) ∘ Lit.int .i64) = l.contains x := by
  induction l with
  | nil => rfl
  | cons y l ih =>
    rw [List.any_cons, ih, List.contains_cons]
    congr 1
    by_cases h : x = y
    · subst h; simp [Lit.sameKey]
    · rw [beq_eq_false_iff_ne.2 h]
      exact sameKey_ne (a := .int .i64 y) (b := .int .i64 x) (fun e => h (by injection e with _ e; exact e.symm))
theorem has_Sd (l : List Int) (k : Nat) (x : Int) : Maps.has (Sd l k) (.int .i64 x) = (l.take k).contains x := by
  unfold Sd
  rw [has_setOf _ _ _ (fun y hy => by obtain ⟨_, _, rfl⟩ := List.mem_map.1 hy; trivial), List.any_map]
  exact any_int x _
theorem Sd_zero (l : List Int) : Sd l 0 = .map [] := by simp [Sd, setOf]
theorem Sd_succ (l : List Int) (k : Nat) (h : k < l.length) : Sd l (k + 1) = (Sd l k).put (.int .i64 l[k]) (.agg []) := by
  unfold Sd
  rw [List.take_succ_eq_append_getElem h, List.map_append]
  exact setOf_snoc _ _ _
/-- The numbers are those of a machine. -/
def Wide (l : List Sr.Shr) : Prop := ∀ s ∈ l, -9223372036854775808 ≤ s.1 ∧ s.1 ≤ 9223372036854775807

theorem shrs_row {w : World} {v : Value} {l : List Sr.Shr} (h : FlatAt w v 3 (shrs l)) {w' : World} (hb : Below w.heap.size w w') (h0 : 0 < l.length) :
    ∃ b off cap, v = .slice (some ⟨b, off, none⟩) l.length cap ∧ b < w.heap.size ∧ ∀ k (hk : k < l.length), w'.cell? ⟨b, off + k * 3, none⟩ = some (.int .i64 l[k].1) ∧ w'.cell? ⟨b, off + k * 3 + 1, none⟩ = some (.int .i64 l[k].2.1) ∧ w'.cell? ⟨b, off + k * 3 + 1 + 1, none⟩ = some (.int .i64 l[k].2.2) := by
  rcases flat_shrs h hb with ⟨rfl, _⟩ | ⟨_, h1⟩
  · simp at h0
  · exact h1

set_option maxHeartbeats 8000000 in
set_option maxRecDepth 100000 in
theorem papart_any (v : Value) (l : List Sr.Shr) (w : World) (hv : FlatAt w v 3 (shrs l)) (hlen : l.length ≤ 140737488351232) (hw : Wide l) :
    Calls Try.prog 31 #[v] w fun e w' => e = .returned (.bool (Sr.apart (Sr.ids l))) ∧ Below w.heap.size w w' := by
  have hmm := @run_makeMap Try.prog
  have hrow := Lib.hid (fun (w' : World) (hb : Below w.heap.size w w') (h0 : 0 < l.length) => shrs_row hv hb h0)
  have HW := Lib.hid hw
  have HS := Lib.hid (Sr.apart_stop (Sr.ids l))
  have HX := Lib.hid (Sr.apart_next (Sr.ids l))
  have HE := Lib.hid (show (Sr.apart ((Sr.ids l).take l.length) = true) → Sr.apart (Sr.ids l) = true from fun h => by rwa [← Sr.ids_len, List.take_length] at h)
  have HI := Lib.hid (Sr.ids_len l)
  obtain ⟨av, cv, rfl⟩ := hv.len (n := l.length) (shrs_len l) (by omega)
  obtain ⟨r, hr⟩ : ∃ r, Sr.apart (Sr.ids l) = r := ⟨_, rfl⟩
  rw [hr] at HS HE ⊢
  clear hv hw hr
  go_enter Try.func31, Try.ntmps31
  go_wp2_with fail
  go_loopw [11] (fun i wr => ∃ k : Nat, i = .int .i64 k ∧ k ≤ l.length ∧ Sr.apart ((Sr.ids l).take k) = true ∧ wr.ownsMap Try.prog 3 (unitElem (H := Unit)) w.heap.size k (Sd (Sr.ids l) k) ∧ Below w.heap.size w wr) (fun i _ => l.length - (intOf i).toNat)
  case atStart => exact ⟨0, rfl, by omega, rfl, by rw [Sd_zero]; exact World.ownsMap_made _ _ _ _, (Below.refl _ _).alloc (Nat.le_refl _) _⟩
  case round =>
    obtain ⟨k, rfl, hk, hap, hown, kb⟩ := hrel
    have HAP := Lib.hid hap
    clear hap
    by_cases hlt : k < l.length
    · obtain ⟨b, off, cap, hv, hblt, hc⟩ := hrow.out _ kb (by omega)
      injection hv with e1 _ e2
      subst e1 e2
      obtain ⟨c0, c1, c2⟩ := hc k hlt
      have hwx := HW.out l[k] (List.getElem_mem hlt)
      have hki : k < (Sr.ids l).length := by rw [HI.out]; exact hlt
      have hnx := HX.out k hki HAP.out
      have hst := HS.out k hki
      have hhas := has_Sd (Sr.ids l) k l[k].1
      have hput := Sd_succ (Sr.ids l) k hki
      have hid : (Sr.ids l)[k] = l[k].1 := by simp [Sr.ids]
      rw [hid] at hnx hput
      obtain ⟨s, hs⟩ : ∃ s, l[k] = s := ⟨_, rfl⟩
      rw [hs] at c0 c1 c2 hwx hnx hhas hput
      have hkey : keyOf Try.prog 3 (.int .i64 s.1) = some (.int .i64 s.1) := keyOf_int_mk Try.underlying3 (by simp [Lit.wf, IntKind.min, IntKind.max, IntKind.signed, IntKind.bits]; omega)
      have ti : (k : Int) < (l.length : Int) := by omega
      have HP := Lib.hid hput
      clear hc hs hid hput hwx
      cases hin : ((Sr.ids l).take k).contains s.1 with
      | true =>
        have hr : r = false := hst (by rw [hnx, hin]; simp)
        subst hr
        rw [hin] at hhas
        clear hin hnx hst HE HS
        go_wp2_with (first
          | (at_lookup; refine wpList_lookup_own_unit _ rfl _ _ 64 rfl 3 65 kInt Try.underlying64 (zeroUnit _) w.heap.size k _ rfl (hown.alloc _) _ _ rfl hkey ?_))
        go_ret
        exact ⟨rfl, (kb.alloc kb.size _).alloc (by have := kb.size; simp; omega) _⟩
      | false =>
        rw [hin] at hhas hnx
        cases hm : Sr.mayId s.1 with
        | false =>
          have hr : r = false := hst (by rw [hnx, hm]; simp)
          subst hr
          have HM := Lib.hid hm
          clear hin hnx hst HE HS hm
          go_wp2_with (first
            | (at_lookup; refine wpList_lookup_own_unit _ rfl _ _ 64 rfl 3 65 kInt Try.underlying64 (zeroUnit _) w.heap.size k _ rfl (hown.alloc _) _ _ rfl hkey ?_))
          refine (pshmay HM.out _).mono ?_
          rintro e w2 ⟨rfl, rfl⟩
          go_wp2
          go_ret
          exact ⟨rfl, (kb.alloc kb.size _).alloc (by have := kb.size; simp; omega) _⟩
        | true =>
          have HM := Lib.hid hm
          have HN := Lib.hid (hnx.trans (show (Sr.mayId s.1 && !false) = true by rw [hm]; rfl))
          clear hin hnx hst hm
          go_wp2_with (first
            | (at_lookup; refine wpList_lookup_own_unit _ rfl _ _ 64 rfl 3 65 kInt Try.underlying64 (zeroUnit _) w.heap.size k _ rfl (hown.alloc _) _ _ rfl hkey ?_))
          refine (pshmay HM.out _).mono ?_
          rintro e w2 ⟨rfl, rfl⟩
          go_wp2_with (first
            | (at_mapUpdate; refine wpList_mapUpdate_own _ rfl _ _ _ 64 rfl 3 65 kInt Try.underlying64 (unitElem (H := Unit)) w.heap.size k _ rfl ((hown.alloc _).alloc _) (by unfold maxLen; omega) _ _ _ rfl rfl hkey _ [] unitElem_mk ?_; intro w3 hown1 hgrow1))
          have kb2 := (kb.alloc kb.size (.cells #[.int .i64 s.1, .int .i64 s.2.1, .int .i64 s.2.2] 27)).alloc (by have := kb.size; simp; omega) (.cells #[] 65)
          go_roundw
          case rel => exact ⟨k + 1, by go_num, by omega, HN.out, by rw [HP.out]; exact hown1, kb2.grown hgrow1 kb2.size (fun j hj => by cases hj; exact Nat.le_refl _)⟩
          case measure => simp [intOf]; omega
    · obtain rfl : k = l.length := by omega
      have hr := HE.out HAP.out
      subst hr
      go_wp2
      go_ret
      exact ⟨rfl, kb⟩
theorem not_in_succ (l : List Int) (j : Nat) (x y : Int) (h : j < l.length) (hy : l[j] = y) (hn : (l.take j).contains x = false) : (l.take (j + 1)).contains x = (x == y) := by
  rw [List.take_succ_eq_append_getElem h, hy]
  simp at hn ⊢
  rw [decide_eq_false hn, Bool.false_or]
  by_cases e : x = y <;> simp [e]

set_option maxHeartbeats 8000000 in
set_option maxRecDepth 100000 in
theorem rapart_any (v : Value) (l : List Sr.Shr) (w : World) (hv : FlatAt w v 3 (shrs l)) (hlen : l.length ≤ 140737488351232) :
    Calls Try.prog 33 #[v] w fun e w' => e = .returned (.bool (Sr.apart (Sr.ids l))) ∧ Below w.heap.size w w' := by
  have hrow := Lib.hid (fun (w' : World) (hb : Below w.heap.size w w') (h0 : 0 < l.length) => shrs_row hv hb h0)
  have HS := Lib.hid (Sr.apart_stop (Sr.ids l))
  have HX := Lib.hid (Sr.apart_next (Sr.ids l))
  have HE := Lib.hid (show (Sr.apart ((Sr.ids l).take l.length) = true) → Sr.apart (Sr.ids l) = true from fun h => by rwa [← Sr.ids_len, List.take_length] at h)
  have HI := Lib.hid (Sr.ids_len l)
  have HL := Lib.hid (show Sr.apart (Sr.ids l) = true → l.length ≤ 64 from fun h => by have := Sr.apart_len h; rwa [Sr.ids_len] at this)
  have HC := Lib.hid (not_in_succ (Sr.ids l))
  have HID := Lib.hid (show ∀ k (h : k < l.length) (h' : k < (Sr.ids l).length), (Sr.ids l)[k] = l[k].1 from fun k h h' => by simp [Sr.ids])
  obtain ⟨av, cv, rfl⟩ := hv.len (n := l.length) (shrs_len l) (by omega)
  obtain ⟨r, hr⟩ : ∃ r, Sr.apart (Sr.ids l) = r := ⟨_, rfl⟩
  rw [hr] at HS HE HL ⊢
  clear hv hr
  by_cases h64 : 64 < l.length
  · have t0 : decide ((64 : Int) < (l.length : Int)) = true := by rw [decide_eq_true_iff]; omega
    obtain rfl : r = false := by
      cases r with
      | false => rfl
      | true => have := HL.out rfl; omega
    clear h64
    go_enter Try.func33, Try.ntmps33
    go_wp2
    go_ret
    exact ⟨rfl, Below.refl _ _⟩
  have t0 : decide ((64 : Int) < (l.length : Int)) = false := by rw [decide_eq_false_iff_not]; omega
  clear h64
  go_enter Try.func33, Try.ntmps33
  go_wp2_with fail
  go_loopw [3] (fun i wr => ∃ k : Nat, i = .int .i64 k ∧ k ≤ l.length ∧ Sr.apart ((Sr.ids l).take k) = true ∧ Below w.heap.size w wr) (fun i _ => l.length - (intOf i).toNat)
  case atStart => exact ⟨0, rfl, by omega, rfl, Below.refl _ _⟩
  case round =>
    obtain ⟨k, rfl, hk, hap, kb⟩ := hrel
    have HAP := Lib.hid hap
    clear hap
    by_cases hlt : k < l.length
    · obtain ⟨b, off, cap, hv, hblt, hc⟩ := hrow.out _ kb (by omega)
      injection hv with e1 _ e2
      subst e1 e2
      obtain ⟨c0, _, _⟩ := hc k hlt
      have hki : k < (Sr.ids l).length := by rw [HI.out]; exact hlt
      have hnx := HX.out k hki HAP.out
      have hst := HS.out k hki
      have hid := HID.out k hlt hki
      rw [hid] at hnx
      obtain ⟨x, hx⟩ : ∃ x, l[k].1 = x := ⟨_, rfl⟩
      rw [hx] at c0 hnx
      have HKX := Lib.hid hx
      have ti : (k : Int) < (l.length : Int) := by omega
      clear hc hid hx
      by_cases g1 : x < 1
      · have hr : r = false := hst (by rw [hnx, show Sr.mayId x = false by simp [Sr.mayId]; omega]; rfl)
        subst hr
        have t1 : decide (x < (1 : Int)) = true := decide_eq_true g1
        clear hnx hst HE HS HL g1
        go_wp2
        go_ret
        exact ⟨rfl, kb⟩
      by_cases g2 : 64 < x
      · have hr : r = false := hst (by rw [hnx, show Sr.mayId x = false by simp [Sr.mayId]; omega]; rfl)
        subst hr
        have t1 : decide (x < (1 : Int)) = false := decide_eq_false g1
        have t2 : decide ((64 : Int) < x) = true := decide_eq_true g2
        clear hnx hst HE HS HL g1 g2
        go_wp2
        go_ret
        exact ⟨rfl, kb⟩
      have t1 : decide (x < (1 : Int)) = false := decide_eq_false g1
      have t2 : decide ((64 : Int) < x) = false := decide_eq_false g2
      rw [show Sr.mayId x = true by simp [Sr.mayId]; omega, Bool.true_and] at hnx
      have HNX := Lib.hid hnx
      have HST := Lib.hid hst
      clear hnx hst g1 g2
      go_wp2_with fail
      go_loopw [4] (fun i w2 => ∃ j : Nat, i = .int .i64 j ∧ j ≤ k ∧ ((Sr.ids l).take j).contains x = false ∧ Below w.heap.size w w2) (fun i _ => k - (intOf i).toNat)
      case atStart => exact ⟨0, rfl, by omega, rfl, kb⟩
      case round =>
        clear c0 kb
        obtain ⟨j, rfl, hj, hno, kb⟩ := hrel
        have HNO := Lib.hid hno
        clear hno
        by_cases hjk : j < k
        · obtain ⟨b', off', cap', hv, _, hc⟩ := hrow.out _ kb (by omega)
          injection hv with e1 _ e2
          injection e1 with e1
          injection e1 with e1 e3 _
          subst e1 e2 e3
          obtain ⟨c0, _, _⟩ := hc k hlt
          obtain ⟨c1, _, _⟩ := hc j (by omega)
          rw [HKX.out] at c0
          have hji : j < (Sr.ids l).length := by omega
          obtain ⟨y, hy⟩ : ∃ y, l[j].1 = y := ⟨_, rfl⟩
          have hn := HC.out j x y hji ((HID.out j (by omega) hji).trans hy) HNO.out
          rw [hy] at c1
          have tj : (j : Int) < (k : Int) := by omega
          have tl : (j : Int) < (l.length : Int) := by omega
          clear hc hy
          by_cases hxy : x = y
          · subst hxy
            have hr : r = false := HST.out (by
              rw [HNX.out]
              have h1 : ((Sr.ids l).take k).contains x = true := by
                rw [beq_self_eq_true] at hn
                rw [List.contains_iff_mem] at hn ⊢
                exact List.mem_of_mem_take (i := j + 1) (by rwa [List.take_take, Nat.min_eq_left (by omega)])
              rw [h1]; rfl)
            subst hr
            have q1 : (x == x) = true := beq_self_eq_true x
            clear hn HE HS HL
            go_wp2_with fail
            go_quiet (fail)
            go_wp2
            go_ret
            exact ⟨rfl, below_drewN kb _⟩
          · have q1 : (y == x) = false := beq_eq_false_iff_ne.2 fun e => hxy e.symm
            have HN2 := Lib.hid (hn.trans (beq_eq_false_iff_ne.2 hxy))
            clear hn hxy
            go_wp2_with fail
            go_quiet (fail)
            go_wp2
            go_roundw
            case rel => exact ⟨j + 1, by go_num, by omega, HN2.out, below_drewN kb _⟩
            case measure => simp [intOf]; omega
        · obtain rfl : j = k := by omega
          go_wp2
          go_roundw
          case rel => exact ⟨j + 1, by go_num, by omega, by rw [HNX.out, HNO.out]; rfl, kb⟩
          case measure => simp [intOf]; omega
    · obtain rfl : k = l.length := by omega
      have hr := HE.out HAP.out
      subst hr
      go_wp2
      go_ret
      exact ⟨rfl, kb⟩
end Go.Proofs.Ytngmkokmomficaa
