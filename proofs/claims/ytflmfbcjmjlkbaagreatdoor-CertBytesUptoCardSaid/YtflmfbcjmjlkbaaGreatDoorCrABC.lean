/- Stage 10's contracts, without what CertBytes lacks. -/
import Derived.Test.YtflmfbcjmjlkbaaGreatDoorGVtx
import Derived.Test.YtflmfbcjmjlkbaaGreatDoorGCM
import Derived.Test.YtflmfbcjmjlkbaaGreatDoorGDig
import Derived.Test.YtflmfbcjmjlkbaaGreatDoorGShaR
import Derived.Test.YtflmfbcjmjlkbaaGreatDoorGSha
import Derived.Test.YtflmfbcjmjlkbaaGreatDoorVtxA
import Derived.Test.YtflmfbcjmjlkbaaGreatDoorVtxBC
import Derived.RangeFuncNested
import Derived.RangeFuncBound
import Derived.RangeFuncCalls
import Derived.RangeFuncLeaves
import Derived.Shelf.Abstract
import Derived.Shelf.RegionOpen
import Derived.WalkKit
import Derived.OwnWalkIn
import Derived.TacticsInMore
import Derived.LoopNIn
import Derived.LoopIn
import Derived.Maps.AppendAt
import Derived.Deep.QuietTactic
import Derived.BigQuiet
import Derived.Laws.StructEq
import Derived.Laws.BitsAll
import Derived.Deep.SlicePairs
import Derived.Lib.SmallJoins
import Derived.RangeFuncBox
set_option maxRecDepth 100000
namespace Go.Proofs.YtflmfbcjmjlkbaaGreatDoor
open Go.RowKit
def ids (l : List Nat) : List Value := l.map fun (i : Nat) => iv (i : Int)
theorem info_int : (Tryz.prog.info? 3).map (fun i => (i.zero, i.size, i.bytes)) = some (some (.int .i64 0), 1, 8) := by kernel_rfl
set_option maxHeartbeats 2000000 in
theorem rlist_any (v : Nat) (hv : v < 18446744073709551616) (w : World) :
    Calls Tryz.prog 78 #[.int .u64 v] w fun e w' => ∃ s, e = .returned s ∧ FlatAt w' s 1 (ids (Se.list v)) ∧ Below w.heap.size w w' := by
  obtain ⟨i0, hi, hz0, hz1, hz2⟩ := info_parts info_int
  go_enter Tryz.func78, Tryz.ntmps78
  go_wp2_with fail
  go_loopw [0, 3, 4] (fun x s i wr => ∃ k : Nat, i = .int .i64 (k + 1 : Nat) ∧ k ≤ 64 ∧ x = .int .u64 (v / 2 ^ k : Nat) ∧ Below w.heap.size w wr ∧ wr.ownsRow w.heap.size 3 1 s (Se.listTo v k).length (ids (Se.listTo v k))) (fun _ _ i _ => 65 - (intOf i).toNat)
  case atStart => exact ⟨0, rfl, by omega, by simp, Below.refl _ _, ⟨by simp [ids, Se.listTo], .inl ⟨rfl, rfl⟩⟩⟩
  case round =>
    obtain ⟨k, rfl, hk, rfl, hbel, hown⟩ := hrel
    by_cases hlt : k < 64
    · have hx : v / 2 ^ k < 18446744073709551616 := Nat.lt_of_le_of_lt (Nat.div_le_self _ _) hv
      obtain ⟨x, hxe⟩ : ∃ x, v / 2 ^ k = x := ⟨_, rfl⟩
      rw [hxe] at hx
      have hnext : v / 2 ^ (k + 1) = x / 2 := by rw [Nat.pow_succ, ← Nat.div_div_eq_div_mul, hxe]
      have hll := Se.listTo_len v k
      by_cases hb : v.testBit k = true
      · have h1 : ((x : Int) % 2 == 1) = true := by
          have := (Se.half_bit v k).2 hb
          rw [hxe] at this
          rw [beq_iff_eq]; omega
        have hst : Se.listTo v (k + 1) = Se.listTo v k ++ [k + 1] := by rw [Se.listTo_step, if_pos hb]
        have HO := Lib.hid hown
        have HX := Lib.hid hxe
        have HN := Lib.hid hnext
        have HS := Lib.hid hst
        clear hown hxe hnext hst hb
        rw [HX.out]
        go_wp2_with (at_builtin; refine wpList_append_own _ rfl _ _ 67 rfl w.heap.size 3 i0 (.int .i64 0) 1 8 Tryz.underlying67 hi hz0 hz1 hz2 rfl (by decide) _ _ _ rfl (HO.out.alloc _) ⟨wr.heap.size, 0, none⟩ 1 1 [.int .i64 ((k : Int) + 1)] rfl rfl ?c1 ?c2 ?c3 ?c4 ?c5 ?_)
        case c1 => exact new_cell _ _ rfl _ _
        case c2 => intro u hu; simp at hu; subst hu; rfl
        case c3 => unfold maxLen; omega
        case c4 => omega
        case c5 => have := hbel.size; simp; omega
        intro s' w2 hown2 hgrow _
        have hsz := hbel.size
        have hown3 : w2.ownsRow w.heap.size 3 1 s' (Se.listTo v (k + 1)).length (ids (Se.listTo v (k + 1))) := by
          rw [HS.out]; simpa [ids, iv] using hown2
        have hbel2 : Below w.heap.size w w2 := (hbel.alloc hsz _).grown hgrow (by simp; omega) (fun k hk => (HO.out.lt k hk).1)
        have HO3 := Lib.hid hown3
        clear hown2 hown3 hgrow HO HS HX
        go_wp2
        go_roundw
        case rel => exact ⟨k + 1, by go_num, by omega, by rw [HN.out]; rfl, hbel2, HO3.out⟩
        case measure => simp [intOf]; omega
      · have h1 : ((x : Int) % 2 == 1) = false := by
          have : ¬ v / 2 ^ k % 2 = 1 := fun e => hb ((Se.half_bit v k).1 e)
          rw [hxe] at this
          rw [beq_eq_false_iff_ne]; omega
        have hst : Se.listTo v (k + 1) = Se.listTo v k := by rw [Se.listTo_step, if_neg hb, List.append_nil]
        rw [← hst] at hown
        have HO := Lib.hid hown
        have HX := Lib.hid hxe
        have HN := Lib.hid hnext
        clear hown hxe hnext hst hb
        rw [HX.out]
        go_wp2
        go_roundw
        case rel => exact ⟨k + 1, by go_num, by omega, by rw [HN.out]; rfl, hbel, HO.out⟩
        case measure => simp [intOf]; omega
    · obtain rfl : k = 64 := by omega
      have HO := Lib.hid hown
      clear hown
      go_wp2
      go_ret
      exact ⟨_, rfl, FlatAt.own HO.out, hbel⟩
theorem ids_len (l : List Nat) : (ids l).length = l.length * 1 := by simp [ids]
theorem ids_at (l : List Nat) (k : Nat) (h : k < l.length) : (ids l)[k]'(by simpa [ids] using h) = iv (l[k] : Nat) := by simp [ids]
/-- What a list of seats is, behind a call. -/
theorem rlist_open {w w' : World} {s : Value} {l : List Nat} (h : FlatAt w s 1 (ids l)) (hb : Below w.heap.size w w') :
    (l = [] ∧ ∃ a cap, s = .slice a 0 cap) ∨ ∃ b off cap, s = .slice (some ⟨b, off, none⟩) l.length cap ∧ ∀ k (hk : k < l.length), w'.cell? ⟨b, off + k, none⟩ = some (iv (l[k] : Nat)) := by
  by_cases h0 : l.length = 0
  · have e : l = [] := List.length_eq_zero_iff.1 h0
    obtain ⟨a, cap, rfl⟩ := h.len (n := l.length) (ids_len l) (by omega)
    subst e
    exact .inl ⟨rfl, _, _, rfl⟩
  · obtain ⟨b, off, cap, rfl, hc⟩ := h.at (n := l.length) (ids_len l) (by omega) (by omega)
    refine .inr ⟨b, off, cap, rfl, fun k hk => ?_⟩
    have := below_cell hb (hc k (by rw [ids_len]; omega))
    rw [this, ids_at l k hk]
theorem list_len64 (v : Nat) : (Se.list v).length ≤ 64 := Se.listTo_len v 64
theorem list_max (v : Nat) (k : Nat) (h : k < (Se.list v).length) : 1 ≤ (Se.list v)[k] ∧ (Se.list v)[k] ≤ 64 := by
  have := (Se.list_mem v (Se.list v)[k]).1 (List.getElem_mem h)
  exact ⟨this.1, this.2.1⟩
set_option maxHeartbeats 2000000 in
theorem rcount_any (v : Nat) (hv : v < 18446744073709551616) (w : World) :
    Calls Tryz.prog 44 #[.int .u64 v] w fun e w' => e = .returned (.int .i64 (Se.count v)) ∧ Below w.heap.size w w' := by
  go_enter Tryz.func44, Tryz.ntmps44
  go_wp2_with fail
  refine (rlist_any v hv _).mono ?_
  rintro e w1 ⟨s, rfl, hs, hb⟩
  obtain ⟨a, cap, rfl⟩ := hs.len (n := (Se.list v).length) (ids_len _) (by omega)
  clear hs
  go_wp2
  go_ret
  exact ⟨rfl, hb⟩
theorem ints_ids (l : List Nat) : ids l = ints (l.map fun (i : Nat) => (i : Int)) := by simp [ids, ints]
set_option maxHeartbeats 400000 in
theorem rwithin_any (v : Nat) (n : Int) (hv : v < 18446744073709551616) (h1 : -9223372036854775808 ≤ n) (h2 : n ≤ 9223372036854775807) (w : World) :
    Calls Tryz.prog 43 #[.int .u64 v, .int .i64 n] w fun e w' => e = .returned (.bool (Se.within v n)) ∧ Below w.heap.size w w' := by
  by_cases hr : 0 ≤ n ∧ n ≤ 64
  · obtain ⟨hr1, hr2⟩ := hr
    have hw : Se.within v n = (Se.list v).all fun i => decide ((i : Int) ≤ n) := by simp [Se.within, hr1, hr2]
    have hl := list_len64 v
    have hla := fun (h : (Se.list v).length - 1 < (Se.list v).length) => Se.all_last (Se.list v) h (Se.list_up v) n
    obtain ⟨l, hle⟩ : ∃ l, Se.list v = l := ⟨_, rfl⟩
    rw [hle] at hw hl hla
    have HL := Lib.hid hle
    have HW := Lib.hid hw
    have HA := Lib.hid hla
    have hd1 : ¬ n < 0 := by omega
    have hd2 : ¬ 64 < n := by omega
    clear hle hw hla
    go_enter Tryz.func43, Tryz.ntmps43
    go_wp2_with fail
    refine (rlist_any v hv _).mono ?_
    rintro e w1 ⟨s, rfl, hs, hb⟩
    rw [HL.out] at hs
    have hop := rlist_open hs (Below.refl _ _)
    have HB := Lib.hid hb
    clear hs hb
    rcases hop with ⟨rfl, a, cap, rfl⟩ | ⟨b, off, cap, rfl, hc⟩
    · go_wp2
      go_ret
      exact ⟨by rw [HW.out]; rfl, HB.out⟩
    · by_cases h0 : l.length = 0
      · have e : l = [] := List.length_eq_zero_iff.1 h0
        subst e
        go_wp2
        go_ret
        exact ⟨by rw [HW.out]; rfl, HB.out⟩
      · obtain ⟨m, hm⟩ : ∃ m, l.length = m + 1 := ⟨l.length - 1, by omega⟩
        have hcm := hc m (by omega)
        have hAm := HA.out (by omega)
        have em : l.length - 1 = m := by omega
        simp only [em] at hAm
        simp only [iv] at hcm
        obtain ⟨x, hx⟩ : ∃ x, l[m] = x := ⟨_, rfl⟩
        rw [hx] at hcm hAm
        have hmb : m ≤ 64 := by omega
        have hxm : x ≤ 64 := by
          have := (Se.list_mem v l[m]).1 (by rw [HL.out]; exact List.getElem_mem _)
          omega
        have hf : Se.within v n = decide ((x : Int) ≤ n) := by rw [HW.out, hAm]
        have HF := Lib.hid hf
        rw [hm]
        clear hc hAm hm em h0 hx hf HA HW
        have hz : ((m : Int) + 1 == 0) = false := by rw [beq_eq_false_iff_ne]; omega
        clear HL hr1 hr2 h1 h2 hl
        go_wp2
        go_ret
        exact ⟨by rw [HF.out]; rfl, HB.out⟩
  · have hw : Se.within v n = false := by simp [Se.within, hr]
    have HW := Lib.hid hw
    clear hw
    by_cases hn : n < 0
    · clear hr
      go_enter Tryz.func43, Tryz.ntmps43
      go_wp2
      go_ret
      exact ⟨by rw [HW.out]; rfl, Below.refl _ _⟩
    · have hn2 : 64 < n := by omega
      clear hr
      go_enter Tryz.func43, Tryz.ntmps43
      go_wp2
      go_ret
      exact ⟨by rw [HW.out]; rfl, Below.refl _ _⟩
end Go.Proofs.YtflmfbcjmjlkbaaGreatDoor
namespace Go.Proofs.YtflmfbcjmjlkbaaGreatDoor
open Go.RowKit
theorem pis_in (id : Int) (h1 : 1 ≤ id) (h2 : id ≤ 64) (w : World) :
    Calls Tryz.prog 92 #[.int .i64 id] w fun e w' => e = .returned (.bool true) ∧ w' = w := by
  have t1 : decide (1 ≤ id) = true := by simpa using h1
  have t2 : decide (id ≤ 64) = true := by simpa using h2
  clear h1 h2
  go_enter Tryz.func92, Tryz.ntmps92
  go_wp2
  go_ret
  exact ⟨rfl, rfl⟩
theorem pis_out (id : Int) (h : id < 1 ∨ 64 < id) (w : World) :
    Calls Tryz.prog 92 #[.int .i64 id] w fun e w' => e = .returned (.bool false) ∧ w' = w := by
  by_cases h1 : 1 ≤ id
  · have t1 : decide (1 ≤ id) = true := by simpa using h1
    have t2 : decide (id ≤ 64) = false := by simp; omega
    clear h1 h
    go_enter Tryz.func92, Tryz.ntmps92
    go_wp2
    go_ret
    exact ⟨rfl, rfl⟩
  · have t1 : decide (1 ≤ id) = false := by simpa using h1
    clear h1 h
    go_enter Tryz.func92, Tryz.ntmps92
    go_wp2
    go_ret
    exact ⟨rfl, rfl⟩
theorem wrap_pow (k : Nat) (h : k ≤ 63) : IntKind.u64.wrap ((2 : Int) ^ k) = ((2 ^ k : Nat) : Int) := by
  have h2 : (2 : Nat) ^ k ≤ 2 ^ 63 := Nat.pow_le_pow_right (by omega) h
  have e : ((2 ^ k : Nat) : Int) = (2 : Int) ^ k := by simp
  rw [← e]
  generalize 2 ^ k = x at h2
  exact IntWalk.u64_in _ ⟨by omega, by omega⟩
theorem pmask_in (k : Nat) (h : k ≤ 63) (w : World) :
    Calls Tryz.prog 93 #[.int .i64 (k + 1 : Nat)] w fun e w' => e = .returned (.int .u64 (2 ^ k : Nat)) ∧ w' = w := by
  go_enter Tryz.func93, Tryz.ntmps93
  go_wp2
  go_ret
  exact ⟨by rw [wrap_pow k h]; rfl, rfl⟩
theorem and_bit (v k : Nat) : v &&& 2 ^ k = if v.testBit k then 2 ^ k else 0 := by
  apply Nat.eq_of_testBit_eq
  intro i
  rw [Nat.testBit_and, Nat.testBit_two_pow]
  by_cases e : k = i
  · subst e
    cases h : v.testBit k with
    | true => simp
    | false => simp
  · cases h : v.testBit k with
    | true => simp [e]
    | false => simp [e]
theorem bits_and_pow (v k : Nat) (hv : v < 18446744073709551616) (hk : k ≤ 63) : bits .and .u64 (v : Int) ((2 ^ k : Nat) : Int) = if v.testBit k then ((2 ^ k : Nat) : Int) else 0 := by
  have h2 : (2 : Nat) ^ k ≤ 2 ^ 63 := Nat.pow_le_pow_right (by omega) hk
  have h3 : 2 ^ k < 18446744073709551616 := by generalize 2 ^ k = x at *; omega
  rw [u64_and_nat v _ hv h3, and_bit]
  cases h : v.testBit k <;> simp
theorem phas_in (v k : Nat) (hv : v < 18446744073709551616) (hk : k ≤ 63) (w : World) :
    Calls Tryz.prog 64 #[.int .u64 v, .int .i64 (k + 1 : Nat)] w fun e w' => e = .returned (.bool (v.testBit k)) ∧ w' = w := by
  have hand := bits_and_pow v k hv hk
  have hp : (0 : Nat) < 2 ^ k := Nat.two_pow_pos k
  have hm := fun W => pmask_in k hk W
  have hi := fun W => pis_in ((k + 1 : Nat) : Int) (by omega) (by omega) W
  generalize 2 ^ k = p at *
  cases hb : v.testBit k with
  | true =>
    rw [hb, if_pos rfl] at hand
    have HA := Lib.hid hand
    have HP := Lib.hid hp
    clear hand hb hp
    go_enter Tryz.func64, Tryz.ntmps64
    go_wp2_with fail
    refine (hi _).mono ?_
    rintro e w1 ⟨rfl, rfl⟩
    go_wp2_with fail
    refine (hm _).mono ?_
    rintro e w1 ⟨rfl, rfl⟩
    go_wp2
    go_ret
    exact ⟨by rw [HA.out]; have := HP.out; simp; omega, rfl⟩
  | false =>
    rw [hb, if_neg (by decide)] at hand
    have HA := Lib.hid hand
    clear hand hb hp
    go_enter Tryz.func64, Tryz.ntmps64
    go_wp2_with fail
    refine (hi _).mono ?_
    rintro e w1 ⟨rfl, rfl⟩
    go_wp2_with fail
    refine (hm _).mono ?_
    rintro e w1 ⟨rfl, rfl⟩
    go_wp2
    go_ret
    exact ⟨by rw [HA.out]; simp, rfl⟩
theorem phas_out (v : Nat) (id : Int) (h : id < 1 ∨ 64 < id) (w : World) :
    Calls Tryz.prog 64 #[.int .u64 v, .int .i64 id] w fun e w' => e = .returned (.bool false) ∧ w' = w := by
  go_enter Tryz.func64, Tryz.ntmps64
  go_wp2_with fail
  refine (pis_out id h _).mono ?_
  rintro e w1 ⟨rfl, rfl⟩
  clear h
  go_wp2
  go_ret
  exact ⟨rfl, rfl⟩
theorem phas_any (v : Nat) (id : Int) (hv : v < 18446744073709551616) (w : World) :
    Calls Tryz.prog 64 #[.int .u64 v, .int .i64 id] w fun e w' => e = .returned (.bool (Se.has v id)) ∧ w' = w := by
  by_cases h : 1 ≤ id ∧ id ≤ 64
  · obtain ⟨k, rfl⟩ : ∃ k : Nat, id = ((k + 1 : Nat) : Int) := ⟨id.toNat - 1, by omega⟩
    have e : Se.has v ((k + 1 : Nat) : Int) = v.testBit k := by
      rw [Se.has_nat v (k + 1) (by omega) (by omega)]; rfl
    rw [e]
    exact phas_in v k hv (by omega) w
  · rw [Se.has_out v id (by omega)]
    exact phas_out v id (by omega) w
theorem pput_in (v k : Nat) (hv : v < 18446744073709551616) (hk : k ≤ 63) (w : World) :
    Calls Tryz.prog 109 #[.int .u64 v, .int .i64 (k + 1 : Nat)] w fun e w' => e = .returned (.tuple #[.int .u64 (v ||| 2 ^ k : Nat), .int .i64 0]) ∧ w' = w := by
  have h2 : (2 : Nat) ^ k ≤ 2 ^ 63 := Nat.pow_le_pow_right (by omega) hk
  have hm := fun W => pmask_in k hk W
  have hi := fun W => pis_in ((k + 1 : Nat) : Int) (by omega) (by omega) W
  have hp : 2 ^ k < 18446744073709551616 := by generalize 2 ^ k = x at *; omega
  clear h2
  generalize 2 ^ k = p at *
  have hor := u64_or_nat v p hv hp
  have HO := Lib.hid hor
  clear hor
  go_enter Tryz.func109, Tryz.ntmps109
  go_wp2_with fail
  refine (hi _).mono ?_
  rintro e w1 ⟨rfl, rfl⟩
  go_wp2_with fail
  refine (hm _).mono ?_
  rintro e w1 ⟨rfl, rfl⟩
  go_wp2
  go_ret2
  exact ⟨by rw [HO.out]; rfl, rfl⟩
theorem pput_out (v : Nat) (id : Int) (h : id < 1 ∨ 64 < id) (w : World) :
    Calls Tryz.prog 109 #[.int .u64 v, .int .i64 id] w fun e w' => e = .returned (.tuple #[.int .u64 0, .int .i64 1]) ∧ w' = w := by
  go_enter Tryz.func109, Tryz.ntmps109
  go_wp2_with fail
  refine (pis_out id h _).mono ?_
  rintro e w1 ⟨rfl, rfl⟩
  clear h
  go_wp2
  go_ret2
  exact ⟨rfl, rfl⟩
theorem pput_any (v : Nat) (id : Int) (hv : v < 18446744073709551616) (w : World) :
    Calls Tryz.prog 109 #[.int .u64 v, .int .i64 id] w fun e w' => e = .returned (.tuple #[.int .u64 (Se.putR v id).1, .int .i64 (Se.putR v id).2]) ∧ w' = w := by
  by_cases h : 1 ≤ id ∧ id ≤ 64
  · obtain ⟨k, rfl⟩ : ∃ k : Nat, id = ((k + 1 : Nat) : Int) := ⟨id.toNat - 1, by omega⟩
    have e : Se.putR v ((k + 1 : Nat) : Int) = (v ||| 2 ^ k, 0) := by rw [Se.putR, if_pos h]; rfl
    rw [e]
    exact pput_in v k hv (by omega) w
  · have e : Se.putR v id = (0, 1) := by rw [Se.putR, if_neg h]
    rw [e]
    exact pput_out v id (by omega) w
theorem within_lt (v m : Nat) (hv : v < 18446744073709551616) (hm : m ≤ 64) : Se.within v m = decide (v < 2 ^ m) := by
  rw [Bool.eq_iff_iff, Se.within_iff v m (by omega), decide_eq_true_iff]
  constructor
  · intro h
    apply Nat.lt_pow_two_of_testBit
    intro i hi
    cases hb : v.testBit i with
    | false => rfl
    | true =>
      by_cases h64 : 64 ≤ i
      · rw [Se.bits_above v i hv h64] at hb; cases hb
      · have := h (i + 1) ((Se.list_mem v (i + 1)).2 ⟨by omega, by omega, hb⟩)
        omega
  · intro h i hi
    obtain ⟨h1, h2, h3⟩ := (Se.list_mem v i).1 hi
    have := Nat.ge_two_pow_of_testBit h3
    have : ¬ m ≤ i - 1 := fun hle => by
      have := Nat.pow_le_pow_right (n := 2) (by omega) hle
      omega
    omega
theorem pwithin_in (v m : Nat) (_hv : v < 18446744073709551616) (hm : m ≤ 64) (w : World) :
    Calls Tryz.prog 39 #[.int .u64 v, .int .i64 m] w fun e w' => e = .returned (.bool (decide (v < 2 ^ m))) ∧ w' = w := by
  have hd : (((v : Int) / 2 ^ m) == 0) = decide (v < 2 ^ m) := by
    have e : (v : Int) / 2 ^ m = ((v / 2 ^ m : Nat) : Int) := by simp
    rw [e, Bool.eq_iff_iff, beq_iff_eq, decide_eq_true_iff]
    have hp := Nat.two_pow_pos m
    constructor
    · intro h
      have h0 : v / 2 ^ m = 0 := by omega
      exact (Nat.div_eq_zero_iff_lt hp).1 h0
    · intro h
      rw [(Nat.div_eq_zero_iff_lt hp).2 h]; rfl
  have HD := Lib.hid hd
  clear hd
  go_enter Tryz.func39, Tryz.ntmps39
  go_wp2
  go_ret
  exact ⟨by rw [← HD.out]; rfl, rfl⟩
theorem pwithin_any (v : Nat) (n : Int) (hv : v < 18446744073709551616) (w : World) :
    Calls Tryz.prog 39 #[.int .u64 v, .int .i64 n] w fun e w' => e = .returned (.bool (Se.within v n)) ∧ w' = w := by
  by_cases h : 0 ≤ n ∧ n ≤ 64
  · obtain ⟨m, rfl⟩ := Int.eq_ofNat_of_zero_le h.1
    have h2 : m ≤ 64 := by omega
    rw [show ((m : Nat) : Int) = (m : Int) from rfl, within_lt v m hv h2]
    exact pwithin_in v m hv h2 w
  · have e : Se.within v n = false := by simp [Se.within, h]
    rw [e]
    by_cases h0 : 0 ≤ n
    · have t1 : decide (0 ≤ n) = true := by simpa using h0
      have t2 : decide (n ≤ 64) = false := by simp; omega
      clear h h0 e
      go_enter Tryz.func39, Tryz.ntmps39
      go_wp2
      go_ret
      exact ⟨rfl, rfl⟩
    · have t1 : decide (0 ≤ n) = false := by simpa using h0
      clear h h0 e
      go_enter Tryz.func39, Tryz.ntmps39
      go_wp2
      go_ret
      exact ⟨rfl, rfl⟩
end Go.Proofs.YtflmfbcjmjlkbaaGreatDoor
namespace Go.Proofs.YtflmfbcjmjlkbaaGreatDoor
open Go.RowKit Go.Shelf
/-- Of the seats that have come, those that are in. -/
def col (v : Nat) (pre : List (Fin 64)) : List Nat := (pre.filter fun x => v.testBit x.val).map (·.val + 1)
theorem col_hit (v : Nat) (pre : List (Fin 64)) (x : Fin 64) (h : v.testBit x.val = true) : col v (pre ++ [x]) = col v pre ++ [x.val + 1] := by simp [col, h]
theorem col_miss (v : Nat) (pre : List (Fin 64)) (x : Fin 64) (h : v.testBit x.val = false) : col v (pre ++ [x]) = col v pre := by simp [col, h]
theorem col_len (v : Nat) (pre : List (Fin 64)) : (col v pre).length ≤ pre.length := by
  rw [col, List.length_map]; exact List.length_filter_le _ _
theorem col_all (v : Nat) : ∀ (k : Nat) (pre : List (Fin 64)), pre.map (·.val) = List.range k → col v pre = Se.listTo v k := by
  intro k
  induction k with
  | zero => intro pre h; simp at h; subst h; rfl
  | succ k ih =>
    intro pre h
    rw [List.range_succ] at h
    obtain ⟨q, r, rfl, hq, hr⟩ := List.map_eq_append_iff.1 h
    obtain ⟨x, rfl, hx⟩ := List.map_eq_singleton_iff.1 hr
    have := ih q hq
    rw [Se.listTo_step, ← this, ← hx]
    cases hb : v.testBit x.val with
    | true => rw [col_hit v q x hb]; simp
    | false => rw [col_miss v q x hb]; simp
end Go.Proofs.YtflmfbcjmjlkbaaGreatDoor
namespace Go.Proofs.YtflmfbcjmjlkbaaGreatDoor
open Go.RowKit Go.Shelf
attribute [local go_sem] Oper.semAt_some
theorem each_any (F : Fence) (n : Nat) (h : F.fn 63) (hro : F.round = none) (w : World) :
    CallsIn F n Tryz.prog 63 #[] w fun e w' => e = .returned (.func (.func 95) #[] #[]) ∧ w' = w := by
  refine callsIn_of_wp Tryz.func63 rfl h ?_ hro
  simp only [Tryz.ntmps63, List.size_toArray, List.length_nil, Nat.reduceSub, Array.replicate_succ, Array.replicate_zero, List.push_toArray, List.append_toArray, List.nil_append]
  gi_wp2
  go_ret
  exact ⟨rfl, rfl⟩
set_option maxRecDepth 100000 in
set_option maxHeartbeats 1000000 in
theorem each1_in (F : Fence) (n : Nat) (h : F.fn 95) (hro : F.round = none) (hn : 1 ≤ n) (l n₀ : Nat) (J Jx : List (Fin 64) → World → Prop)
    (hY : ∀ pre x W, J pre W → pre.length < 64 → YieldAt F (n - 1) Tryz.prog l #[.int .i64 ((x.val : Int) + 1)] W fun e W' =>
      (e = .returned (.bool true) ∧ J (pre ++ [x]) W' ∧ Below n₀ W W') ∨ (e = .returned (.bool false) ∧ Jx (pre ++ [x]) W'))
    (W : World) (h0 : J [] W) :
    CallsIn F n Tryz.prog 95 #[.func (.yield l) #[] #[]] W fun e W' => (∃ v, e = .returned v) ∧
      ((∃ ys, ys.map (·.val) = List.range 64 ∧ J ys W') ∨ (∃ pre, (∃ k, pre.map (·.val) = List.range k) ∧ Jx pre W')) := by
  refine callsIn_of_wp Tryz.func95 rfl h ?_ hro
  simp only [Tryz.ntmps95, List.size_toArray, List.length_cons, List.length_nil, Nat.reduceAdd, Nat.reduceSub, Array.replicate_succ, Array.replicate_zero, List.push_toArray, List.append_toArray, List.nil_append, List.cons_append]
  gi_wp2
  gi_loopw [3] (fun i wr => ∃ (k : Nat) (pre : List (Fin 64)), i = .int .i64 k ∧ k ≤ 64 ∧ pre.map (·.val) = List.range k ∧ J pre wr) (fun i _ => 64 - (intOf i).toNat)
  case atStart => exact ⟨0, [], rfl, by omega, rfl, h0⟩
  case round =>
    obtain ⟨k, pre, rfl, hk, hpre, hJs⟩ := hrel
    by_cases hlt : k < 64
    · have hlen : pre.length = k := by have := congrArg List.length hpre; simpa using this
      have hnext : (pre ++ [(⟨k, hlt⟩ : Fin 64)]).map (·.val) = List.range (k + 1) := by simp [List.range_succ, hpre]
      obtain ⟨fn, tmps, assign, body, hy, hR⟩ := hY pre ⟨k, hlt⟩ wr hJs (by omega)
      dsimp only at hy
      gi_wp2
      refine hR.mono ?_
      rintro e W3 (⟨rfl, hJ3, hk3⟩ | ⟨rfl, hJx3⟩)
      · gi_wp2
        go_roundw
        case rel => exact ⟨k + 1, _, by go_num, by omega, hnext, hJ3⟩
        case measure => simp [intOf]; omega
      · gi_wp2
        refine bodyPost_ret (results_none rfl _ _ _) rfl ?_
        exact ⟨⟨_, rfl⟩, .inr ⟨_, ⟨k + 1, hnext⟩, hJx3⟩⟩
    · obtain rfl : k = 64 := by omega
      gi_wp2
      go_end0
      exact ⟨⟨_, rfl⟩, .inl ⟨pre, hpre, hJs⟩⟩
theorem each_stops (F : Fence) (n : Nat) (h : F.fn 95) (hro : F.round = none) (hn : 1 ≤ n) (n₀ : Nat) (w : World) :
    SeqStopsK F n Tryz.prog 95 #[] (fun x : Fin 64 => #[Value.int .i64 ((x.val : Int) + 1)]) (Below n₀) (fun ys => ys.map (·.val) = List.range 64) (fun pre => ∃ k, pre.map (·.val) = List.range k) 64 w := fun l J Jx W _ _ _ hY h0 =>
  each1_in F n h hro hn l n₀ J Jx hY W h0
theorem info_intL : (Tryz.prog.info? 3).map (fun i => (i.zero, i.size, i.bytes)) = some (some (.int .i64 0), 1, 8) := by kernel_rfl
theorem shr_test (v k : Nat) : (((v : Int) / 2 ^ k) == 0) = decide (v < 2 ^ k) := by
  have e : (v : Int) / 2 ^ k = ((v / 2 ^ k : Nat) : Int) := by simp
  rw [e, Bool.eq_iff_iff, beq_iff_eq, decide_eq_true_iff]
  have hp := Nat.two_pow_pos k
  constructor
  · intro h
    have h0 : v / 2 ^ k = 0 := by omega
    exact (Nat.div_eq_zero_iff_lt hp).1 h0
  · intro h
    rw [(Nat.div_eq_zero_iff_lt hp).2 h]; rfl
theorem listTo_stop (v k : Nat) (h : v < 2 ^ k) : ∀ m, k ≤ m → Se.listTo v m = Se.listTo v k := by
  intro m
  induction m with
  | zero => intro hk; obtain rfl : k = 0 := by omega
            rfl
  | succ m ih =>
    intro hk
    by_cases e : k = m + 1
    · rw [e]
    · have hb : v.testBit m = false := Nat.testBit_lt_two_pow (Nat.lt_of_lt_of_le h (Nat.pow_le_pow_right (by omega) (by omega)))
      rw [Se.listTo_step, hb, ih (by omega)]
      simp
set_option maxRecDepth 100000 in
set_option maxHeartbeats 4000000 in
theorem plist_any (v : Nat) (hv : v < 18446744073709551616) (w : World) :
    Calls Tryz.prog 33 #[.int .u64 v] w fun e w' => ∃ s, e = .returned s ∧ FlatAt w' s 1 (ids (Se.list v)) ∧ Below w.heap.size w w' := by
  refine (callsIn_wide (n := 3)).1 ?_
  obtain ⟨i0, hi, hz0, hz1, hz2⟩ := info_parts info_intL
  refine callsIn_of_wp_marks Tryz.func33 rfl trivial ?_ rfl
  simp only [Tryz.ntmps33, List.size_toArray, List.length_cons, List.length_nil, Nat.reduceAdd, Nat.reduceSub, Array.replicate_succ, Array.replicate_zero, List.push_toArray, List.append_toArray, List.nil_append, List.cons_append]
  gi_wp2
  refine (wpIn_wide (n := 3)).2 (wp_scope_straight ((wpIn_wide (n := 3)).1 ?_))
  gi_wp2
  refine wpIn_label ?_
  gi_wp2_with fail
  refine ⟨trivial, (each_any Fence.wide _ trivial rfl _).mono ?_⟩
  rintro e w' ⟨rfl, rfl⟩
  gi_wp2
  have bV := Boxed.new w 28 (.int .u64 v)
  have bL := Boxed.new (w.alloc (.cells #[.int .u64 v] 28)) 67 (.slice none 0 0)
  rw [World.size_alloc] at bL
  have hB0 : Below w.heap.size w ((w.alloc (.cells #[.int .u64 v] 28)).alloc (.cells #[.slice none 0 0] 67)) := ((Below.refl _ w).alloc (Nat.le_refl _) _).alloc (by simp) _
  refine wpIn_rangeFunc_ownG (n := 3) rfl (by decide) (gf := 95) (lb := #[]) rfl trivial (enters_of Tryz.func95 (by kernel_rfl) rfl)
    (each_stops Fence.wide _ trivial rfl (by decide) w.heap.size _) belowK_t (belowK_b (by simp; omega)) (Below.refl _ _) (fun _ => rfl)
    (fun pre W => ((∃ s, Boxed W (w.heap.size + 1) 67 s ∧ W.ownsRow w.heap.size 3 1 s (col v pre).length (ids (col v pre)) ∧ True) ∧ Boxed W w.heap.size 28 (.int .u64 v)) ∧ Below w.heap.size w W)
    (fun c pre W => (((∃ s, Boxed W (w.heap.size + 1) 67 s ∧ W.ownsRow w.heap.size 3 1 s (col v pre.dropLast).length (ids (col v pre.dropLast)) ∧ True) ∧ Boxed W w.heap.size 28 (.int .u64 v)) ∧ Below w.heap.size w W) ∧ (c = .exit 0 ∧ ∃ q x, pre = q ++ [x] ∧ v < 2 ^ x.val))
    (OwnFrom.and (OwnFrom.and (Own.from (holdsRow_own w.heap.size (w.heap.size + 1) 67 3 1 (fun pre => (col v pre).length) (fun pre => ids (col v pre)) (fun _ _ => True)) _) (Own.from (boxed_own _ _ _) _)) (ownFrom_below (Nat.le_refl _) (by simp; omega)))
    (fun c => OwnFrom.and (OwnFrom.and (OwnFrom.and (Own.from (holdsRow_own w.heap.size (w.heap.size + 1) 67 3 1 (fun (pre : List (Fin 64)) => (col v pre.dropLast).length) (fun pre => ids (col v pre.dropLast)) (fun _ _ => True)) _) (Own.from (boxed_own _ _ _) _)) (ownFrom_below (Nat.le_refl _) (by simp; omega))) (ownFrom_pure _ _))
    ⟨⟨⟨_, bL, World.ownsRow_nil _ _ _ _, trivial⟩, bV.alloc _⟩, hB0⟩
    (fun x => { tmps := #[.int .u64 v, .pointer (some ⟨w.heap.size, 0, none⟩), .slice none 0 0, .pointer (some ⟨w.heap.size + 1, 0, none⟩), .int .i64 ((x.val : Int) + 1), .func (.func 95) #[] #[], .int .i64 ((x.val : Int) + 1), undef, undef, undef, undef, undef, undef, undef, undef, undef, undef, undef, undef, undef, undef, undef], defers := [] }) ?assign ?body ?done ?stop
  case assign =>
    intro l x W K hK
    gi_wp2
    exact hK
  case body =>
    rintro l pre x W ⟨⟨⟨s, hs, hrow, _⟩, hvb⟩, hB⟩ hlt
    have hcs := hs.cell
    have hcv := hvb.cell
    have hx64 := x.isLt
    have ht := shr_test v x.val
    have hcl := col_len v pre
    by_cases hstop : v < 2 ^ x.val
    · rw [decide_eq_true hstop] at ht
      gi_wp2
      exact ⟨KeepsFrom.refl _ _, ⟨⟨⟨s, hs, by rw [List.dropLast_concat]; exact hrow, trivial⟩, hvb⟩, hB⟩, rfl, pre, x, rfl, hstop⟩
    · rw [decide_eq_false hstop] at ht
      have hh := fun W => phas_in v x.val hv (by omega) W
      cases hb : v.testBit x.val with
      | true =>
        rw [hb] at hh
        have ec := col_hit v pre x hb
        gi_wp2_with fail
        refine ⟨trivial, (CallsIn.inRound l (callsIn_wide.2 (hh _))).mono ?_⟩
        rintro e w' ⟨rfl, rfl⟩
        gi_wp2_with (gi_at_builtin; refine wpListIn_append_own _ rfl _ _ 67 rfl w.heap.size 3 i0 (.int .i64 0) 1 8 Tryz.underlying67 hi hz0 hz1 hz2 rfl (by decide) _ _ _ rfl (hrow.alloc _) ⟨w'.heap.size, 0, none⟩ 1 1 [.int .i64 ((x.val : Int) + 1)] rfl rfl (cell_one_new _ _ _) (by simp [Value.oneCell']) (by unfold maxLen; omega) (by omega) (by have := hB.size; simp; omega) ?_; intro v' w1 hown' hgrow _; obtain ⟨g', cap', rfl⟩ := ownsRow_succ hown'; obtain ⟨hv1, hv2, hr2, hk2, hb2⟩ := hs.appended (by decide) hrow hB.size (by omega) hown' hgrow; have hc1 := hv1.cell; have hf1 := hv1.frozen)
        have hvb1 : Boxed w1 w.heap.size 28 (.int .u64 v) := (hvb.alloc _).kept hgrow (hvb.not_row (by decide) hrow)
        exact ⟨hk2.from _, hb2, ⟨⟨_, hv2, by rw [ec]; simpa [ids, iv] using hr2, trivial⟩, hvb1.kept (grownBy_setCell' w1 (w.heap.size + 1) _) (by simp)⟩, hB.trans hb2⟩
      | false =>
        rw [hb] at hh
        have ec := col_miss v pre x hb
        gi_wp2_with fail
        refine ⟨trivial, (CallsIn.inRound l (callsIn_wide.2 (hh _))).mono ?_⟩
        rintro e w' ⟨rfl, rfl⟩
        gi_wp2
        exact ⟨KeepsFrom.refl _ _, Below.refl _ _, ⟨⟨s, hs, by rw [ec]; exact hrow, trivial⟩, hvb⟩, hB⟩
  case done =>
    rintro D ys W hD hys ⟨⟨⟨s, hs, hrow, _⟩, hvb⟩, hB⟩ hK
    have hcs := hs.cell
    have hall := col_all v 64 ys hys
    gi_wp2
    refine ⟨by simp, .inl ⟨_, _, rfl, run_takeDeferred hK, ?_⟩⟩
    exact ⟨_, results_tmp rfl _ _ _, s, rfl, FlatAt.own (by rw [Se.list, ← hall]; exact ownsRow_putObj hrow _ hK rfl), hB.trans (belowK_b (w := w) (Nat.le_refl _) W D _ _ (by simp at hD; omega) hK rfl rfl)⟩
  case stop =>
    rintro D c pre W hD ⟨k, hk⟩ ⟨⟨⟨⟨s, hs, hrow, _⟩, hvb⟩, hB⟩, rfl, q, x, rfl, hx⟩ hK
    have hcs := hs.cell
    have hall : col v q = Se.list v := by
      cases k with
      | zero => simp at hk
      | succ k =>
        rw [List.map_append, List.range_succ] at hk
        obtain ⟨h1, h2⟩ := List.append_inj' hk rfl
        have hxk : x.val = k := by simpa using h2
        rw [col_all v k q h1, Se.list, listTo_stop v k (by rw [← hxk]; exact hx) 64 (by have := x.isLt; omega)]
    rw [List.dropLast_concat, hall] at hrow
    gi_wp2
    refine ⟨by simp, .inl ⟨_, _, rfl, run_takeDeferred hK, ?_⟩⟩
    exact ⟨_, results_tmp rfl _ _ _, s, rfl, FlatAt.own (ownsRow_putObj hrow _ hK rfl), hB.trans (belowK_b (w := w) (Nat.le_refl _) W D _ _ (by simp at hD; omega) hK rfl rfl)⟩
set_option maxHeartbeats 1000000 in
theorem pcount_any (v : Nat) (hv : v < 18446744073709551616) (w : World) :
    Calls Tryz.prog 40 #[.int .u64 v] w fun e w' => e = .returned (.int .i64 (Se.count v)) ∧ Below w.heap.size w w' := by
  go_enter Tryz.func40, Tryz.ntmps40
  go_wp2_with fail
  refine (plist_any v hv _).mono ?_
  rintro e w1 ⟨s, rfl, hs, hb⟩
  obtain ⟨a, cap, rfl⟩ := hs.len (n := (Se.list v).length) (ids_len _) (by omega)
  clear hs
  go_wp2
  go_ret
  exact ⟨rfl, hb⟩
set_option maxHeartbeats 2000000 in
theorem pof_any (s : Value) (l : List Int) (w : World) (hs : FlatAt w s 1 (ints l)) (hl : l.length ≤ 9223372036854775807) :
    Calls Tryz.prog 61 #[s] w fun e w' => e = .returned (.tuple #[.int .u64 (Se.of l).1, .int .i64 (Se.of l).2]) ∧ w' = w := by
  rcases flat_ints hs (Below.refl _ _) with ⟨rfl, a, cap, rfl⟩ | ⟨h0, b, off, cap, rfl, hc⟩
  · go_enter Tryz.func61, Tryz.ntmps61
    go_wp2_with fail
    refine wp_loop_rounds 1 ?_
    rw [rounds_succ]
    go_wp2
    go_ret2
    exact ⟨rfl, rfl⟩
  · have HC := Lib.hid hc
    clear hc hs h0
    go_enter Tryz.func61, Tryz.ntmps61
    go_wp2_with fail
    go_loop [4, 9] (fun o i => ∃ (k v : Nat), i = .int .i64 k ∧ o = .int .u64 v ∧ k ≤ l.length ∧ v < 18446744073709551616 ∧ Se.ofL (l.drop k) v = Se.ofL l 0) (fun _ i => l.length - (intOf i).toNat)
    case atStart => exact ⟨0, 0, rfl, rfl, by omega, by omega, rfl⟩
    case round =>
      obtain ⟨k, v, rfl, rfl, hk, hv, hof⟩ := hrel
      by_cases hlt : k < l.length
      · rw [List.drop_eq_getElem_cons hlt] at hof
        have hcell := HC.out k hlt
        obtain ⟨x, hx⟩ : ∃ x, l[k] = x := ⟨_, rfl⟩
        rw [hx] at hof hcell
        simp only [iv] at hcell
        by_cases hr : 1 ≤ x ∧ x ≤ 64
        · obtain ⟨i, rfl⟩ : ∃ i : Nat, x = ((i + 1 : Nat) : Int) := ⟨x.toNat - 1, by omega⟩
          rw [Se.ofL_put _ _ v hr] at hof
          have hlt2 := Se.put_lt v (i + 1) hv (by omega) (by omega)
          have hput : Se.put v (i + 1) = v ||| 2 ^ i := rfl
          have hto : ((i + 1 : Nat) : Int).toNat = i + 1 := by omega
          rw [hto, hput] at hof
          rw [hput] at hlt2
          have hm := fun W => pmask_in i (by omega) W
          have hi := fun W => pis_in ((i + 1 : Nat) : Int) hr.1 hr.2 W
          have hp : 2 ^ i < 18446744073709551616 := Nat.lt_of_le_of_lt (Nat.pow_le_pow_right (by omega) (show i ≤ 63 by omega)) (by decide)
          clear hput hto hx
          generalize 2 ^ i = p at *
          have hor := u64_or_nat v p hv hp
          have HO := Lib.hid hor
          have HF := Lib.hid hof
          clear hor hof hr
          go_wp2_with fail
          refine (hi _).mono ?_
          rintro e w1 ⟨rfl, rfl⟩
          go_wp2_with fail
          refine (hm _).mono ?_
          rintro e w1 ⟨rfl, rfl⟩
          go_wp2
          go_round
          case rel => exact ⟨k + 1, _, by go_num, by rw [HO.out], hlt, hlt2, HF.out⟩
          case measure => simp [intOf]; omega
        · rw [Se.ofL_bad x _ v hr] at hof
          have hfin : Se.of l = (0, 1) := by rw [Se.of, ← hof]
          have hi := fun W => pis_out x (by omega) W
          have HF := Lib.hid hfin
          clear hof hr hx hfin
          go_wp2_with fail
          refine (hi _).mono ?_
          rintro e w1 ⟨rfl, rfl⟩
          go_wp2_with fail
          go_ret2
          exact ⟨by rw [HF.out]; rfl, rfl⟩
      · obtain rfl : k = l.length := by omega
        rw [List.drop_length, Se.ofL] at hof
        have hfin : Se.of l = (v, 0) := by rw [Se.of, ← hof]
        have HF := Lib.hid hfin
        clear hof hfin
        go_wp2
        go_ret2
        exact ⟨by rw [HF.out]; rfl, rfl⟩
end Go.Proofs.YtflmfbcjmjlkbaaGreatDoor
namespace Go.Proofs.YtflmfbcjmjlkbaaGreatDoor
open Go.RowKit
/-- Seals, as the cells of a slice. -/
def seals (l : List Bk.Sl) : List Value := l.flatMap fun s => [iv s.1, tx s.2]
theorem seals_len (l : List Bk.Sl) : (seals l).length = l.length * 2 := by
  induction l with
  | nil => rfl
  | cons s l ih =>
    have : seals (s :: l) = iv s.1 :: tx s.2 :: seals l := rfl
    rw [this, List.length_cons, List.length_cons, ih, List.length_cons]; omega
theorem seals_at (l : List Bk.Sl) (k : Nat) (h : k < l.length) : (seals l)[k * 2]? = some (iv l[k].1) ∧ (seals l)[k * 2 + 1]? = some (tx l[k].2) := by
  induction l generalizing k with
  | nil => simp at h
  | cons s l ih =>
    have e : seals (s :: l) = iv s.1 :: tx s.2 :: seals l := rfl
    cases k with
    | zero => simp [e]
    | succ k =>
      have := ih k (by simpa using h)
      rw [e, show (k + 1) * 2 = k * 2 + 2 by omega, show k * 2 + 2 + 1 = (k * 2 + 1) + 2 by omega]
      simpa using this
/-- A book, opened. -/
theorem flat_seals {w w' : World} {s : Value} {l : List Bk.Sl} (h : FlatAt w s 2 (seals l)) (hb : Below w.heap.size w w') :
    (l = [] ∧ ∃ a cap, s = .slice a 0 cap) ∨ (0 < l.length ∧ ∃ b off cap, s = .slice (some ⟨b, off, none⟩) l.length cap ∧ ∀ k (hk : k < l.length), w'.cell? ⟨b, off + k * 2, none⟩ = some (iv l[k].1) ∧ w'.cell? ⟨b, off + k * 2 + 1, none⟩ = some (tx l[k].2)) := by
  by_cases h0 : l.length = 0
  · have e : l = [] := List.length_eq_zero_iff.1 h0
    obtain ⟨a, cap, rfl⟩ := h.len (n := l.length) (seals_len l) (by omega)
    subst e
    exact .inl ⟨rfl, _, _, rfl⟩
  · obtain ⟨b, off, cap, rfl, hc⟩ := h.at (n := l.length) (seals_len l) (by omega) (by omega)
    refine .inr ⟨by omega, b, off, cap, rfl, fun k hk => ?_⟩
    obtain ⟨h1, h2⟩ := seals_at l k hk
    have l1 : k * 2 < (seals l).length := by rw [seals_len]; omega
    have l2 : k * 2 + 1 < (seals l).length := by rw [seals_len]; omega
    rw [List.getElem?_eq_getElem l1] at h1
    rw [List.getElem?_eq_getElem l2] at h2
    injection h1 with h1
    injection h2 with h2
    exact ⟨by rw [below_cell hb (hc (k * 2) l1), h1], by rw [Nat.add_assoc, below_cell hb (hc (k * 2 + 1) l2), h2]⟩
end Go.Proofs.YtflmfbcjmjlkbaaGreatDoor
namespace Bk
/-- One seal more, for its text. -/
def step (t : List UInt8) (o : Nat) (s : Sl) : Nat := if s.2 = t then (if inR s then o ||| 2 ^ (s.1.toNat - 1) else o) else o
def fold (l : List Sl) (t : List UInt8) : Nat := l.foldl (step t) 0
theorem step_bit (t : List UInt8) (o : Nat) (s : Sl) (i : Nat) : (step t o s).testBit i = (o.testBit i || decide (i < 64 ∧ s = ((i : Int) + 1, t))) := by
  rw [step]
  by_cases h1 : s.2 = t
  · rw [if_pos h1]
    by_cases h2 : inR s = true
    · rw [if_pos h2, Nat.testBit_or, Nat.testBit_two_pow]
      simp only [inR, decide_eq_true_iff] at h2
      congr 1
      apply decide_eq_decide.mpr
      constructor
      · intro e
        exact ⟨by omega, Prod.ext (by show s.1 = (i : Int) + 1; omega) h1⟩
      · rintro ⟨_, e⟩
        have := congrArg Prod.fst e
        simp only at this
        omega
    · rw [if_neg h2]
      have : ¬ (i < 64 ∧ s = ((i : Int) + 1, t)) := by
        rintro ⟨hi, e⟩
        apply h2
        rw [e, inR, decide_eq_true_iff]
        simp only
        omega
      simp [this]
  · rw [if_neg h1]
    have : ¬ (i < 64 ∧ s = ((i : Int) + 1, t)) := by
      rintro ⟨_, e⟩
      exact h1 (by rw [e])
    simp [this]
theorem fold_bit (l : List Sl) (t : List UInt8) (o i : Nat) : (l.foldl (step t) o).testBit i = (o.testBit i || decide (i < 64 ∧ ((i : Int) + 1, t) ∈ l)) := by
  induction l generalizing o with
  | nil => simp
  | cons s l ih =>
    rw [List.foldl_cons, ih, step_bit]
    have e : (((i : Int) + 1, t) = s) ↔ (s = ((i : Int) + 1, t)) := ⟨Eq.symm, Eq.symm⟩
    simp only [List.mem_cons, e]
    by_cases hi : i < 64 <;> by_cases h1 : s = ((i : Int) + 1, t) <;> by_cases h2 : ((i : Int) + 1, t) ∈ l <;> simp [hi, h1, h2]
theorem fold_by (l : List Sl) (t : List UInt8) : fold l t = by' l t := by
  apply Nat.eq_of_testBit_eq
  intro i
  rw [fold, fold_bit, by', byTo_bit]
  by_cases hi : i < 64 <;> simp [hi, has]
theorem step_lt (t : List UInt8) (o : Nat) (s : Sl) (ho : o < 18446744073709551616) : step t o s < 18446744073709551616 := by
  rw [step]
  split
  · split
    · rename_i h
      simp only [inR, decide_eq_true_iff] at h
      exact Nat.or_lt_two_pow (n := 64) ho (Nat.pow_lt_pow_right (by omega) (by omega))
    · exact ho
  · exact ho
theorem fold_lt (l : List Sl) (t : List UInt8) (o : Nat) (ho : o < 18446744073709551616) : l.foldl (step t) o < 18446744073709551616 := by
  induction l generalizing o with
  | nil => exact ho
  | cons s l ih => exact ih _ (step_lt t o s ho)
theorem fold_step (l : List Sl) (t : List UInt8) (k : Nat) (h : k < l.length) : fold (l.take (k + 1)) t = step t (fold (l.take k) t) l[k] := by
  rw [fold, List.take_succ_eq_append_getElem h, List.foldl_append]; rfl
theorem all_bits (l : List Sl) (x : Nat) (t : List UInt8) : all l x t = decide (x &&& (18446744073709551615 - by' l t) = 0) := by
  have hb : by' l t < 2 ^ 64 := byTo_lt l t 64 (by omega)
  rw [Bool.eq_iff_iff, decide_eq_true_iff, all_iff]
  have e : 18446744073709551615 - by' l t = 2 ^ 64 - (by' l t + 1) := by omega
  have e2 : ∀ i, (18446744073709551615 - by' l t).testBit i = (decide (i < 64) && !(decide (i < 64) && has l ((i : Int) + 1, t))) := by
    intro i
    rw [e, Nat.testBit_two_pow_sub_succ hb, by', byTo_bit]
  constructor
  · intro h
    apply Nat.eq_of_testBit_eq
    intro i
    rw [Nat.testBit_and, e2, Nat.zero_testBit]
    by_cases hi : i < 64
    · by_cases hx : x.testBit i = true
      · simp [hi, has, h i hi hx]
      · simp [hx]
    · simp [hi]
  · intro h i hi hx
    have h2 := congrArg (fun n => n.testBit i) h
    simp only [Nat.testBit_and, e2, Nat.zero_testBit, hx, hi, has] at h2
    simpa using h2
end Bk
namespace Go.Proofs.YtflmfbcjmjlkbaaGreatDoor
open Go.RowKit
set_option maxHeartbeats 2000000 in
theorem pby_any (v : Value) (l : List Bk.Sl) (t : List UInt8) (w : World) (hs : FlatAt w v 2 (seals l)) (hl : l.length ≤ 140737488351232) :
    Calls Tryz.prog 94 #[v, tx t] w fun e w' => e = .returned (.int .u64 (Bk.by' l t)) ∧ Below w.heap.size w w' := by
  rw [← Bk.fold_by]
  rcases flat_seals hs (Below.refl _ _) with ⟨rfl, a, cap, rfl⟩ | ⟨h0, b, off, cap, rfl, hc⟩
  · go_enter Tryz.func94, Tryz.ntmps94
    go_wp2_with fail
    refine wp_loop_rounds 1 ?_
    rw [rounds_succ]
    go_wp2
    go_ret
    exact ⟨rfl, Below.refl _ _⟩
  · have HC := Lib.hid hc
    have HST := Lib.hid (Bk.fold_step l t)
    have HLT := Lib.hid fun k => Bk.fold_lt (l.take k) t 0 (by omega)
    clear hc hs
    go_enter Tryz.func94, Tryz.ntmps94
    go_wp2_with fail
    go_loopw [5, 7, 8, 9, 12] (fun o _ _ _ i wr => ∃ k : Nat, i = .int .i64 k ∧ k ≤ l.length ∧ o = .int .u64 (Bk.fold (l.take k) t) ∧ Below w.heap.size w wr) (fun _ _ _ _ i _ => l.length - (intOf i).toNat)
    case atStart => exact ⟨0, rfl, by omega, rfl, Below.refl _ _⟩
    case round =>
      obtain ⟨k, rfl, hk, rfl, hbel⟩ := hrel
      have HB := Lib.hid hbel
      clear hbel
      by_cases hlt : k < l.length
      · obtain ⟨c1', c2'⟩ := HC.out k hlt
        have c1 := below_cell HB.out c1'
        have c2 := below_cell HB.out c2'
        have hst := HST.out k hlt
        have hFl := HLT.out k
        have n1 : wr.heap.size ≠ b := World.new_ne wr _ c1
        clear c1' c2'
        obtain ⟨y, hy⟩ : ∃ y, l[k] = y := ⟨_, rfl⟩
        rw [hy] at c1 c2 hst
        obtain ⟨z, u⟩ := y
        simp only [iv] at c1 c2
        obtain ⟨F, hF⟩ : ∃ x, Bk.fold (l.take k) t = x := ⟨_, rfl⟩
        have hFl' : F < 18446744073709551616 := by rw [← hF]; exact hFl
        obtain ⟨G, hG⟩ : ∃ x, Bk.fold (l.take (k + 1)) t = x := ⟨_, rfl⟩
        rw [hF, hG] at hst
        rw [hF]
        have HG := Lib.hid hG
        clear hy hF hG hFl
        have hb3 := HB.out.alloc HB.out.size (.cells #[.int .i64 z, tx u] 45)
        have HB3 := Lib.hid hb3
        clear hb3
        by_cases hu : u = t
        · subst hu
          by_cases hr : 1 ≤ z ∧ z ≤ 64
          · have hp := fun W => pput_any F z hFl' W
            have e : Se.putR F z = (F ||| 2 ^ (z.toNat - 1), 0) := by rw [Se.putR, if_pos hr]; rfl
            rw [e] at hp
            have e2 : G = F ||| 2 ^ (z.toNat - 1) := by rw [hst, Bk.step, if_pos rfl, if_pos (by simpa [Bk.inR] using hr)]
            have E2 := Lib.hid e2
            generalize F ||| 2 ^ (z.toNat - 1) = N at *
            clear e e2 hst hr
            go_wp2_with fail
            refine (hp _).mono ?_
            rintro e w1 ⟨rfl, rfl⟩
            go_wp2
            go_roundw
            case rel => exact ⟨k + 1, by go_num, hlt, by rw [HG.out, E2.out], HB3.out⟩
            case measure => simp [intOf]; omega
          · have hp := fun W => pput_any F z hFl' W
            have e : Se.putR F z = (0, 1) := by rw [Se.putR, if_neg hr]
            rw [e] at hp
            have e2 : G = F := by rw [hst, Bk.step, if_pos rfl, if_neg (by simpa [Bk.inR] using hr)]
            have E2 := Lib.hid e2
            clear e e2 hst hr
            go_wp2_with fail
            refine (hp _).mono ?_
            rintro e w1 ⟨rfl, rfl⟩
            go_wp2
            go_roundw
            case rel => exact ⟨k + 1, by go_num, hlt, by rw [HG.out, E2.out], HB3.out⟩
            case measure => simp [intOf]; omega
        · have e2 : G = F := by rw [hst, Bk.step, if_neg hu]
          have E2 := Lib.hid e2
          have q1 : (u == t) = false := by simpa using hu
          have q2 : (u != t) = true := by simpa using hu
          have q3 : ¬ t = u := fun e => hu e.symm
          clear e2 hst
          go_wp2_with fail
          all_goals try go_roundw
          all_goals first
            | exact ⟨⟨k + 1, by go_num, hlt, by rw [HG.out, E2.out], HB3.out⟩, by simp [intOf]; omega⟩
            | exact ⟨k + 1, by go_num, hlt, by rw [HG.out, E2.out], HB3.out⟩
            | (simp [intOf]; omega)
            | (with_reducible rfl)
      · obtain rfl : k = l.length := by omega
        rw [List.take_length]
        go_wp2
        go_ret
        exact ⟨rfl, HB.out⟩
theorem pby_eq {v : Value} {l : List Bk.Sl} {t : List UInt8} {r : Nat} (h : Bk.by' l t = r) (w : World) (hs : FlatAt w v 2 (seals l)) (hl : l.length ≤ 140737488351232) :
    Calls Tryz.prog 94 #[v, tx t] w fun e w' => e = .returned (.int .u64 r) ∧ Below w.heap.size w w' := by subst h; exact pby_any v l t w hs hl
set_option maxHeartbeats 1000000 in
theorem pall_any (v : Value) (l : List Bk.Sl) (x : Nat) (t : List UInt8) (w : World) (hs : FlatAt w v 2 (seals l)) (hl : l.length ≤ 140737488351232) (hx : x < 18446744073709551616) :
    Calls Tryz.prog 62 #[v, .int .u64 x, tx t] w fun e w' => e = .returned (.bool (Bk.all l x t)) ∧ Below w.heap.size w w' := by
  have hb : Bk.by' l t < 18446744073709551616 := Bk.byTo_lt l t 64 (by omega)
  have hby := fun W hs => pby_any v l t W hs hl
  have ha := Bk.all_bits l x t
  generalize Bk.by' l t = B at *
  have hn := u64_andNot_nat x B hx hb
  have HN := Lib.hid hn
  have HA := Lib.hid ha
  have HS := Lib.hid hs
  clear hn ha hs
  go_enter Tryz.func62, Tryz.ntmps62
  go_wp2_with fail
  refine (hby _ HS.out).mono ?_
  rintro e w1 ⟨rfl, h1⟩
  go_wp2_with fail
  go_ret
  refine ⟨?_, h1⟩
  have e : ∀ N : Nat, ((N : Int) == 0) = decide (N = 0) := fun N => by rw [Bool.eq_iff_iff, beq_iff_eq, decide_eq_true_iff]; omega
  rw [HA.out, HN.out]
  simp [e]
theorem pall_eq {v : Value} {l : List Bk.Sl} {x : Nat} {t : List UInt8} {r : Bool} (h : Bk.all l x t = r) (w : World) (hs : FlatAt w v 2 (seals l)) (hl : l.length ≤ 140737488351232) (hx : x < 18446744073709551616) :
    Calls Tryz.prog 62 #[v, .int .u64 x, tx t] w fun e w' => e = .returned (.bool r) ∧ Below w.heap.size w w' := by subst h; exact pall_any v l x t w hs hl hx
end Go.Proofs.YtflmfbcjmjlkbaaGreatDoor
namespace Go.Proofs.YtflmfbcjmjlkbaaGreatDoor
open Go.RowKit
set_option maxRecDepth 100000
attribute [local go_sem] ByteArray.mk_append_mk
theorem pvote (d : List UInt8) (hd : d.length ≤ 140737488351232) (w : World) : Calls Tryz.prog 13 #[tx d] w fun e w' => e = .returned (tx (Cr.yd d)) ∧ w' = w := by
  have e1 := fun W => cat_run [121] d (by simp; omega) W
  go_enter Tryz.func13, Tryz.ntmps13
  go_wp2
  go_ret
  exact ⟨rfl, rfl⟩
/-- The contracts of layer 5 as equations. -/
theorem cwithin {v : Nat} {n : Int} {b : Bool} (h : Se.within v n = b) (hv : v < 18446744073709551616) (w : World) :
    Calls Tryz.prog 39 #[.int .u64 v, .int .i64 n] w fun e w' => e = .returned (.bool b) ∧ Below w.heap.size w w' := by
  subst h; exact (pwithin_any v n hv w).mono fun e w' hh => ⟨hh.1, by rw [hh.2]; exact Below.refl _ _⟩
theorem ccount {v c : Nat} (h : Se.count v = c) (hv : v < 18446744073709551616) (w : World) :
    Calls Tryz.prog 40 #[.int .u64 v] w fun e w' => e = .returned (.int .i64 c) ∧ Below w.heap.size w w' := by
  subst h; exact pcount_any v hv w
theorem cof {s : Value} {l : List Int} {a x : Nat} (h : Se.of l = (a, x)) (w : World) (hs : FlatAt w s 1 (ints l)) (hl : l.length ≤ 9223372036854775807) :
    Calls Tryz.prog 61 #[s] w fun e w' => e = .returned (.tuple #[.int .u64 a, .int .i64 x]) ∧ Below w.heap.size w w' :=
  (pof_any s l w hs hl).mono fun e w' hh => by rw [h] at hh; exact ⟨hh.1, by rw [hh.2]; exact Below.refl _ _⟩
theorem se_of_lt (l : List Int) : (Se.of l).1 < 18446744073709551616 := by
  have key : ∀ (l : List Int) (v : Nat), v < 18446744073709551616 → ∀ r, Se.ofL l v = some r → r < 18446744073709551616 := by
    intro l
    induction l with
    | nil => intro v hv r h; simp only [Se.ofL, Option.some.injEq] at h; omega
    | cons x l ih =>
      intro v hv r h
      by_cases hx : 1 ≤ x ∧ x ≤ 64
      · rw [Se.ofL_put _ _ _ hx] at h
        exact ih _ (Se.put_lt v x.toNat hv (by omega) (by omega)) r h
      · rw [Se.ofL_bad _ _ _ hx] at h; cases h
  unfold Se.of
  split
  · rename_i v h; exact key l 0 (by omega) v h
  · simp
set_option maxHeartbeats 1000000 in
theorem penough (n : Int) (x : Nat) (hx : x < 18446744073709551616) (n1 : -9223372036854775808 ≤ n) (n2 : n ≤ 9223372036854775807) (w : World) :
    Calls Tryz.prog 15 #[.int .i64 n, .int .u64 x] w fun e w' => e = .returned (.int .i64 (Cr.enough n x)) ∧ Below w.heap.size w w' := by
  obtain ⟨z, hz⟩ : ∃ z, Se.within x n = z := ⟨_, rfl⟩
  obtain ⟨c, hc⟩ : ∃ c, Se.count x = c := ⟨_, rfl⟩
  obtain ⟨q, hq⟩ : ∃ q, Se.quorum n = q := ⟨_, rfl⟩
  have he : Cr.enough n x = if z = true then (if (c : Int) < q then 2 else 0) else 4 := by rw [Cr.enough, hz, hc, hq]
  rw [he]
  have HZ := Lib.hid hz
  have HC := Lib.hid hc
  have HQ := Lib.hid hq
  clear he hz hc hq
  cases z with
  | false =>
    rw [if_neg (by simp)]
    go_enter Tryz.func15, Tryz.ntmps15
    go_wp2_with fail
    refine (cwithin HZ.out hx _).mono ?_
    rintro e w1 ⟨rfl, g1⟩
    go_wp2
    go_ret
    exact ⟨rfl, g1⟩
  | true =>
    rw [if_pos rfl]
    by_cases hlt : (c : Int) < q
    · rw [if_pos hlt]
      have t1 : decide ((c : Int) < q) = true := decide_eq_true hlt
      clear hlt
      go_enter Tryz.func15, Tryz.ntmps15
      go_wp2_with fail
      refine (cwithin HZ.out hx _).mono ?_
      rintro e w1 ⟨rfl, g1⟩
      go_wp2_with fail
      refine (ccount HC.out hx _).mono ?_
      rintro e w2 ⟨rfl, g2⟩
      have G2 := Lib.hid (grow_trans g1 g2)
      clear g1 g2
      go_wp2_with fail
      refine (pquorum_eq HQ.out n1 n2 _).mono ?_
      rintro e w3 ⟨rfl, rfl⟩
      go_wp2
      go_ret
      exact ⟨rfl, G2.out⟩
    · rw [if_neg hlt]
      have t1 : decide ((c : Int) < q) = false := decide_eq_false hlt
      clear hlt
      go_enter Tryz.func15, Tryz.ntmps15
      go_wp2_with fail
      refine (cwithin HZ.out hx _).mono ?_
      rintro e w1 ⟨rfl, g1⟩
      go_wp2_with fail
      refine (ccount HC.out hx _).mono ?_
      rintro e w2 ⟨rfl, g2⟩
      have G2 := Lib.hid (grow_trans g1 g2)
      clear g1 g2
      go_wp2_with fail
      refine (pquorum_eq HQ.out n1 n2 _).mono ?_
      rintro e w3 ⟨rfl, rfl⟩
      go_wp2
      go_ret
      exact ⟨rfl, G2.out⟩
theorem penough_eq {n : Int} {x r : Nat} (h : Cr.enough n x = r) (hx : x < 18446744073709551616) (n1 : -9223372036854775808 ≤ n) (n2 : n ≤ 9223372036854775807) (w : World) :
    Calls Tryz.prog 15 #[.int .i64 n, .int .u64 x] w fun e w' => e = .returned (.int .i64 r) ∧ Below w.heap.size w w' := by subst h; exact penough n x hx n1 n2 w
set_option maxHeartbeats 1000000 in
theorem psealed {b : List Bk.Sl} {t : List UInt8} {l : List Int} {a x : Nat} {r : Bool} (ho : Se.of l = (a, x)) (hr : (decide (x = 0) && Bk.all b a t) = r) (bv iv' : Value) (w : World) (hb : FlatAt w bv 2 (seals b)) (hl : b.length ≤ 140737488351232) (hi : FlatAt w iv' 1 (ints l)) (hil : l.length ≤ 9223372036854775807) :
    Calls Tryz.prog 32 #[bv, tx t, iv'] w fun e w' => e = .returned (.bool r) ∧ Below w.heap.size w w' := by
  have ha : a < 18446744073709551616 := by have := se_of_lt l; rw [ho] at this; exact this
  have HO := Lib.hid ho
  have HB := Lib.hid hb
  have HI := Lib.hid hi
  obtain ⟨ab, cb, rfl⟩ := hb.len (n := b.length) (seals_len b) (by omega)
  obtain ⟨ai, ci, rfl⟩ := hi.len (n := l.length) (ints_len l) (by omega)
  by_cases hx : x = 0
  · subst hx
    obtain ⟨z, hz⟩ : ∃ z, Bk.all b a t = z := ⟨_, rfl⟩
    rw [hz] at hr
    simp only [decide_true, Bool.true_and] at hr
    subst hr
    have HZ := Lib.hid hz
    clear ho hb hi hz
    go_enter Tryz.func32, Tryz.ntmps32
    go_wp2_with fail
    refine (cof HO.out _ HI.out hil).mono ?_
    rintro e w1 ⟨rfl, g1⟩
    go_wp2_with fail
    refine (pall_eq HZ.out _ (HB.out.below g1) hl ha).mono ?_
    rintro e w2 ⟨rfl, g2⟩
    have G2 := Lib.hid (grow_trans g1 g2)
    clear g1 g2
    go_wp2
    go_ret
    exact ⟨rfl, G2.out⟩
  · have hr' : r = false := by rw [← hr, decide_eq_false hx, Bool.false_and]
    subst hr'
    have t1 : ((x : Int) == 0) = false := by rw [beq_eq_false_iff_ne]; omega
    clear ho hb hi hr hx
    go_enter Tryz.func32, Tryz.ntmps32
    go_wp2_with fail
    refine (cof HO.out _ HI.out hil).mono ?_
    rintro e w1 ⟨rfl, g1⟩
    go_wp2
    go_ret
    exact ⟨rfl, g1⟩
end Go.Proofs.YtflmfbcjmjlkbaaGreatDoor
namespace Go.Proofs.YtflmfbcjmjlkbaaGreatDoor
open Go.RowKit
set_option maxRecDepth 100000
/-- A proof as a value; its own cells, in a block. -/
abbrev prfV (a r : Int) (b p : Value) (x y : Int) (s : Nat) : Value := .agg #[.int .i64 a, .int .i64 r, b, p, .int .i64 x, .int .i64 y, .int .u64 s]
def PBox (W : World) (B : Nat) (a r : Int) (b p : Value) (x y : Int) (s : Nat) : Prop := W.heap[B]? = some (.cells #[.int .i64 a, .int .i64 r, b, p, .int .i64 x, .int .i64 y, .int .u64 s] 30 (0, 0))
end Go.Proofs.YtflmfbcjmjlkbaaGreatDoor
namespace Go.Proofs.YtflmfbcjmjlkbaaGreatDoor
open Go.RowKit
set_option maxRecDepth 100000
section
variable {W W' : World} {B n s : Nat} {a r x y : Int} {b p : Value}
theorem PBox.lt (h : PBox W B a r b p x y s) : B < W.heap.size := (Array.getElem?_eq_some_iff.1 h).1
theorem PBox.cells (h : PBox W B a r b p x y s) : W.cell? ⟨B, 0, none⟩ = some (.int .i64 a) ∧ W.cell? ⟨B, 1, none⟩ = some (.int .i64 r) ∧ W.cell? ⟨B, 2, none⟩ = some b ∧ W.cell? ⟨B, 3, none⟩ = some p ∧ W.cell? ⟨B, 4, none⟩ = some (.int .i64 x) ∧ W.cell? ⟨B, 5, none⟩ = some (.int .i64 y) ∧ W.cell? ⟨B, 6, none⟩ = some (.int .u64 s) := by
  have e : W.heap[B]? = _ := h
  refine ⟨?_, ?_, ?_, ?_, ?_, ?_, ?_⟩ <;> simp [World.cell?, e]
theorem PBox.free (h : PBox W B a r b p x y s) : W.frozen? ⟨B, 0, none⟩ = false ∧ W.frozen? ⟨B, 1, none⟩ = false ∧ W.frozen? ⟨B, 2, none⟩ = false ∧ W.frozen? ⟨B, 3, none⟩ = false ∧ W.frozen? ⟨B, 4, none⟩ = false ∧ W.frozen? ⟨B, 5, none⟩ = false ∧ W.frozen? ⟨B, 6, none⟩ = false := by
  have e : W.heap[B]? = _ := h
  refine ⟨?_, ?_, ?_, ?_, ?_, ?_, ?_⟩ <;> simp [World.frozen?, e]
theorem PBox.new (W : World) (a r : Int) (b p : Value) (x y : Int) (s : Nat) : PBox (W.alloc (.cells #[.int .i64 a, .int .i64 r, b, p, .int .i64 x, .int .i64 y, .int .u64 s] 30)) W.heap.size a r b p x y s := World.alloc_heap_new W _
theorem PBox.kept (h : PBox W B a r b p x y s) (hb : Below W.heap.size W W') : PBox W' B a r b p x y s := (hb.block B h.lt).trans h
theorem PBox.alloc (h : PBox W B a r b p x y s) (o : Obj) : PBox (W.alloc o) B a r b p x y s := h.kept ((Below.refl _ _).alloc (Nat.le_refl _) o)
end
end Go.Proofs.YtflmfbcjmjlkbaaGreatDoor
namespace Go.Proofs.YtflmfbcjmjlkbaaGreatDoor
open Go.RowKit
set_option maxRecDepth 100000
section
variable {W W' : World} {B n s : Nat} {a r x y : Int} {b p : Value}
end
theorem clist (v : Nat) (hv : v < 18446744073709551616) (w : World) :
    Calls Tryz.prog 33 #[.int .u64 v] w fun e w' => ∃ s, e = .returned s ∧ FlatAt w' s 1 (ints ((Se.list v).map fun (i : Nat) => (i : Int))) ∧ Below w.heap.size w w' :=
  (plist_any v hv w).mono fun e w' ⟨s, he, hs, hb⟩ => ⟨s, he, by rw [← ints_ids]; exact hs, hb⟩
theorem sum_32 (s : List UInt8) : (Sh.sum s).length = 32 := by
  obtain ⟨a, b, c, d, e, f, g, k, h⟩ := Sh.eight _ (Sh.after_len (Sh.pad s) ((Sh.pad s).length / 64))
  rw [Sh.sum, h]
  rfl
set_option maxHeartbeats 4000000 in
theorem pcheck (n : Int) (b : List Bk.Sl) (p : Cr.Prf) (bkv bv pv : Value) (w : World) (hk : FlatAt w bkv 2 (seals b)) (hl : b.length ≤ 140737488351232) (hb : BtsAt w bv p.1.2.2.1) (hp : TxAt w pv p.1.2.2.2.1) (mv : Vt.Mod p.1) (hx : p.2 < 18446744073709551616) (n1 : -9223372036854775808 ≤ n) (n2 : n ≤ 9223372036854775807) (hw : GW w) :
    Calls Tryz.prog 12 #[.int .i64 n, bkv, prfV p.1.1 p.1.2.1 bv pv p.1.2.2.2.2.1 p.1.2.2.2.2.2 p.2] w fun e w' => e = .returned (.int .i64 (Cr.check n b p)) ∧ Below w.heap.size w w' := by
  have MV := Lib.hid mv
  have HW := Lib.hid hw
  obtain ⟨v, x⟩ := p
  simp only [] at hb hp hx
  have hdl := sum_32 (118 :: Vt.bytes v)
  have hol := Se.ofL_list x hx
  obtain ⟨⟨d, er⟩, hD⟩ : ∃ R, Vt.digestR v n = R := ⟨_, rfl⟩
  obtain ⟨en, hen⟩ : ∃ z, Cr.enough n x = z := ⟨_, rfl⟩
  have HD := Lib.hid hD
  have HEN := Lib.hid hen
  obtain ⟨ak, ck, hke⟩ := hk.len (n := b.length) (seals_len b) (by omega)
  obtain ⟨ab, cb, hbe⟩ := hb.len
  obtain ⟨ap, cp, hpe⟩ := hp.len
  have HK := Lib.hid hk
  have HB := Lib.hid hb
  have HP := Lib.hid hp
  cases hm : Vt.may v n with
  | false =>
    have hc : Cr.check n b (v, x) = 1 := by
      have hf : Cr.fits (v, x) n = 1 := by unfold Cr.fits; rw [if_neg (by simp [hm])]
      rw [Cr.check_no (by rw [hf]; omega), hf]
    have E := Lib.hid hc
    rw [Vt.digestR_no hm] at hD
    simp only [Prod.mk.injEq] at hD
    obtain ⟨rfl, rfl⟩ := hD
    obtain ⟨a, r, bs, ps, y, z⟩ := v
    simp only [] at hbe hpe HB HP
    subst hke hbe hpe
    have P0 := Lib.hid (PBox.new w a r (.slice ab bs.length cb) (.slice ap ps.length cp) y z x)
    have HG := Lib.hid (show Below w.heap.size w (w.alloc (.cells #[.int .i64 a, .int .i64 r, .slice ab bs.length cb, .slice ap ps.length cp, .int .i64 y, .int .i64 z, .int .u64 x] 30)) from (Below.refl _ _).alloc (Nat.le_refl _) _)
    clear hk hb hp hm hc hdl hol hen mv hw
    go_enter Tryz.func12, Tryz.ntmps12
    go_wp2_with fail
    refine (pvdigest_eq (v := (a, r, bs, ps, y, z)) HD.out _ _ _ (HB.out.below HG.out) (HP.out.below HG.out) MV.out n1 n2 (HW.out.below HG.out)).mono ?_
    rintro e w1 ⟨rfl, g1⟩
    have G1 := Lib.hid (HG.out.trans (g1.mono (by simp)))
    clear g1
    go_wp2
    go_ret
    exact ⟨by rw [E.out]; rfl, G1.out⟩
  | true =>
    rw [Vt.digestR_ok hm] at hD
    simp only [Prod.mk.injEq] at hD
    obtain ⟨hd, rfl⟩ := hD
    have hd32 : d.length = 32 := by rw [← hd]; exact hdl
    have hdv : Cr.vdig v = d := hd
    have hf : Cr.fits (v, x) n = en := (Cr.fits_of (p := (v, x)) hm).trans hen
    obtain ⟨al, hal⟩ : ∃ z, Bk.all b x (Cr.yd d) = z := ⟨_, rfl⟩
    have hc : Cr.check n b (v, x) = if en = 0 then (if al = true then 0 else 10) else en := by
      by_cases h0 : en = 0
      · rw [if_pos h0, Cr.check_ok (hf.trans h0)]
        show (if Bk.all b x (Cr.yd (Cr.vdig v)) = true then 0 else 10) = _
        rw [hdv, hal]
      · rw [if_neg h0, Cr.check_no (by rw [hf]; exact h0), hf]
    have E := Lib.hid hc
    have HAL := Lib.hid (show (decide ((0 : Nat) = 0) && Bk.all b x (Cr.yd d)) = al by rw [hal]; simp)
    have HOL := Lib.hid hol
    obtain ⟨a, r, bs, ps, y, z⟩ := v
    simp only [] at hbe hpe HB HP
    subst hke hbe hpe
    have P0 := Lib.hid (PBox.new w a r (.slice ab bs.length cb) (.slice ap ps.length cp) y z x)
    have HG := Lib.hid (show Below w.heap.size w (w.alloc (.cells #[.int .i64 a, .int .i64 r, .slice ab bs.length cb, .slice ap ps.length cp, .int .i64 y, .int .i64 z, .int .u64 x] 30)) from (Below.refl _ _).alloc (Nat.le_refl _) _)
    clear hk hb hp hm hc hdl hol hen mv hw hf hd hdv hal
    go_enter Tryz.func12, Tryz.ntmps12
    go_wp2_with fail
    refine (pvdigest_eq (v := (a, r, bs, ps, y, z)) HD.out _ _ _ (HB.out.below HG.out) (HP.out.below HG.out) MV.out n1 n2 (HW.out.below HG.out)).mono ?_
    rintro e w1 ⟨rfl, g1⟩
    have P1 := Lib.hid (P0.out.kept g1)
    have G1 := Lib.hid (HG.out.trans (g1.mono (by simp)))
    obtain ⟨c0, c1, c2, c3, c4, c5, c6⟩ := P1.out.cells
    clear g1
    go_wp2_with fail
    refine (penough_eq HEN.out hx n1 n2 _).mono ?_
    rintro e w2 ⟨rfl, g2⟩
    have P2 := Lib.hid (P1.out.kept g2)
    have G2 := Lib.hid (grow_trans G1.out g2)
    clear g2 c0 c1 c2 c3 c4 c5 c6
    by_cases h0 : en = 0
    · subst h0
      have E2 := Lib.hid (E.out.trans (if_pos rfl))
      obtain ⟨c0, c1, c2, c3, c4, c5, c6⟩ := P2.out.cells
      have hS : (fun w' : World => w'.cell? ⟨w.heap.size, 6, none⟩ = some (.int .u64 x) ∧ Below w.heap.size w w') w2 := ⟨c6, G2.out⟩
      have hk := Lib.hid (show ∀ a' b' : World, (fun w' : World => w'.cell? ⟨w.heap.size, 6, none⟩ = some (.int .u64 x) ∧ Below w.heap.size w w') a' → Below a'.heap.size a' b' → (fun w' : World => w'.cell? ⟨w.heap.size, 6, none⟩ = some (.int .u64 x) ∧ Below w.heap.size w w') b' from fun a' b' ⟨k0, kb⟩ h => ⟨below_cell h k0, grow_trans kb h⟩)
      have hvt := Lib.hid (fun W (h : (fun w' : World => w'.cell? ⟨w.heap.size, 6, none⟩ = some (.int .u64 x) ∧ Below w.heap.size w w') W) => keepB (fun w' : World => w'.cell? ⟨w.heap.size, 6, none⟩ = some (.int .u64 x) ∧ Below w.heap.size w w') hk.out (same_below (pvote d (by omega) W)) h)
      have hls := Lib.hid (show ∀ W, (fun w' : World => w'.cell? ⟨w.heap.size, 6, none⟩ = some (.int .u64 x) ∧ Below w.heap.size w w') W → Calls Tryz.prog 33 #[.int .u64 x] W fun e w' => ∃ s, e = .returned s ∧ FlatAt w' s 1 (ints ((Se.list x).map fun (i : Nat) => (i : Int))) ∧ (fun w' : World => w'.cell? ⟨w.heap.size, 6, none⟩ = some (.int .u64 x) ∧ Below w.heap.size w w') w' from fun W h => (clist x hx W).mono fun e w' ⟨s, he, hs, hb⟩ => ⟨s, he, hs, hk.out _ _ h hb⟩)
      have hsl := Lib.hid (fun s W (hs : FlatAt W s 1 (ints ((Se.list x).map fun (i : Nat) => (i : Int)))) (h : (fun w' : World => w'.cell? ⟨w.heap.size, 6, none⟩ = some (.int .u64 x) ∧ Below w.heap.size w w') W) => keepB (fun w' : World => w'.cell? ⟨w.heap.size, 6, none⟩ = some (.int .u64 x) ∧ Below w.heap.size w w') hk.out (psealed HOL.out HAL.out (.slice ak b.length ck) s W (HK.out.below h.2) hl hs (by rw [List.length_map]; have := Se.count_le x; unfold Se.count at this; omega)) h)
      clear c0 c1 c2 c3 c4 c5 c6 P0 P1 P2 HG G1 G2 HB HP HK HAL HOL HD HEN MV HW
      go_wp2_with fail
      go_region_held3 (fun w' : World => w'.cell? ⟨w.heap.size, 6, none⟩ = some (.int .u64 x) ∧ Below w.heap.size w w')
        (first | assumption | exact hk.out _ _ hS (Below.drew (Below.refl _ _)) | exact hk.out _ _ (by assumption) ((Below.refl _ _).alloc (Nat.le_refl _) _))
        (first
          | (go_at_call 13; refine (hvt.out _ (by assumption)).mono ?_; rintro e w3 ⟨rfl, kS⟩)
          | (go_at_call 33; refine (hls.out _ (by assumption)).mono ?_; rintro e w3 ⟨s, rfl, hs, kS⟩)
          | (go_at_call 32; refine (hsl.out _ _ (by assumption) (by assumption)).mono ?_; rintro e w3 ⟨rfl, kS⟩))
      all_goals
        cases al with
        | true =>
          have E3 := Lib.hid (E2.out.trans (if_pos rfl))
          go_wp2_with fail
          go_ret
          exact ⟨by rw [E3.out]; rfl, (show (fun w' : World => w'.cell? ⟨w.heap.size, 6, none⟩ = some (.int .u64 x) ∧ Below w.heap.size w w') _ by assumption).2⟩
        | false =>
          have E3 := Lib.hid (E2.out.trans (if_neg (by simp)))
          go_wp2_with fail
          go_ret
          exact ⟨by rw [E3.out]; rfl, (show (fun w' : World => w'.cell? ⟨w.heap.size, 6, none⟩ = some (.int .u64 x) ∧ Below w.heap.size w w') _ by assumption).2⟩
    · have t1 : ((en : Int) != 0) = true := by rw [bne_iff_ne]; omega
      have E2 := Lib.hid (E.out.trans (if_neg h0))
      clear h0
      go_wp2
      go_ret
      exact ⟨by rw [E2.out]; rfl, G2.out⟩
end Go.Proofs.YtflmfbcjmjlkbaaGreatDoor
namespace Go.Proofs.YtflmfbcjmjlkbaaGreatDoor
open Go.RowKit
/-- A book that came in, as what is cut and appended. -/
def BookAt (w : World) (v : Value) (l : List Bk.Sl) : Prop := (∃ a, v = .slice a 0 0 ∧ l = []) ∨ ∃ b off cap, v = .slice (some ⟨b, off, none⟩) l.length cap ∧ l.length ≤ cap ∧ cap ≤ maxLen ∧ ∀ k (h : k < l.length), w.cell? ⟨b, off + k * 2, none⟩ = some (iv l[k].1) ∧ w.cell? ⟨b, off + k * 2 + 1, none⟩ = some (tx l[k].2)
theorem BookAt.below {w w' : World} {v : Value} {l : List Bk.Sl} (h : BookAt w v l) (hb : Below w.heap.size w w') : BookAt w' v l := by
  rcases h with h | ⟨b, off, cap, hv, h1, h2, hc⟩
  · exact .inl h
  · exact .inr ⟨b, off, cap, hv, h1, h2, fun k hk => ⟨below_cell hb (hc k hk).1, below_cell hb (hc k hk).2⟩⟩
theorem clone_row {w : World} {b off : Nat} {l : List Bk.Sl} (hc : ∀ k (h : k < l.length), w.cell? ⟨b, off + k * 2, none⟩ = some (iv l[k].1) ∧ w.cell? ⟨b, off + k * 2 + 1, none⟩ = some (tx l[k].2)) :
    ∀ j u, (seals l)[j]? = some u → w.cell? ((⟨b, off, none⟩ : Addr).add j) = some u := by
  intro j u hj
  have hlt : j < (seals l).length := (List.getElem?_eq_some_iff.1 hj).1
  rw [seals_len] at hlt
  have ha : (⟨b, off, none⟩ : Addr).add j = ⟨b, off + j, none⟩ := by unfold Addr.add; split <;> simp_all
  rw [ha]
  obtain ⟨h1, h2⟩ := hc (j / 2) (by omega)
  obtain ⟨s1, s2⟩ := seals_at l (j / 2) (by omega)
  by_cases hm : j % 2 = 0
  · have e : j / 2 * 2 = j := by omega
    rw [e] at h1 s1
    rw [h1, ← s1, hj]
  · have e : j / 2 * 2 + 1 = j := by omega
    rw [e] at s2
    rw [Nat.add_assoc, e] at h2
    rw [h2, ← s2, hj]
theorem BookAt.flat {w : World} {v : Value} {l : List Bk.Sl} (h : BookAt w v l) : FlatAt w v 2 (seals l) := by
  rcases h with ⟨a, hv, rfl⟩ | ⟨b, off, cap, hv, h1, h2, hc⟩
  · exact .inl ⟨_, _, hv, rfl⟩
  · refine .inr ⟨b, off, l.length, cap, hv, seals_len l, fun i hi => ?_⟩
    have hr := clone_row hc i _ (List.getElem?_eq_getElem hi)
    have ha : (⟨b, off, none⟩ : Addr).add i = ⟨b, off + i, none⟩ := by unfold Addr.add; split <;> simp_all
    rw [ha] at hr
    exact hr
end Go.Proofs.YtflmfbcjmjlkbaaGreatDoor
namespace Go.Proofs.YtflmfbcjmjlkbaaGreatDoor
open Go.RowKit Go.ChangeShapes Go.WideShapes Go.ChangeAt
theorem bulk_len {H : Type} (D : Nat → DataW H) (m : Nat) : m ≤ Rows.uptoBulkAll ((List.range m).map D) := by
  have h1 : ∀ x : DataW H, 1 ≤ Rows.uptoBulk x := by
    intro x
    cases x with
    | lit y => cases y <;> simp [Rows.uptoBulk]
    | _ => simp [Rows.uptoBulk]
  have : ∀ xs : List (DataW H), xs.length ≤ Rows.uptoBulkAll xs := by
    intro xs
    induction xs with
    | nil => simp [Rows.uptoBulkAll]
    | cons x xs ih => have := h1 x; simp only [Rows.uptoBulkAll, List.length_cons]; omega
  have := this ((List.range m).map D)
  simpa using this
theorem trod_seals {H : Type} {enc : TypeId × Value → H} {W : World} {n : Nat} {t : TypeId} {v : Value} {y : DataW H × List MemPlace} (ht : Tryz.prog.underlying t = some (.slice 45)) (h : DataW.trod enc Tryz.prog W 0 (fun _ => true) true n t [v] = some y) :
    ∃ l, BookAt W v l ∧ l.length ≤ Rows.uptoBulk y.1 ∧ (l = [] ∨ ∃ es sp, y.1 = .slice es sp ∧ es.length = l.length) := by
  rcases Go.Deep.open_slice_pairs ht Tryz.underlying45 (by kernel_rfl) rfl rfl (by kernel_rfl) (by kernel_rfl) h with ⟨hv, rfl⟩ | ⟨a, len, cap, m, k, V0, V1, D0, D1, P0, P1, hv, _, hl, hcap, hm, rfl, hc⟩
  · cases hv
    exact ⟨[], .inl ⟨none, rfl, rfl⟩, by simp, .inl rfl⟩
  · cases hv
    simp only [if_true] at hm
    subst hm
    have hs : ∀ i, ∃ s : Bk.Sl, i < m → V0 i = iv s.1 ∧ V1 i = tx s.2 := by
      intro i
      by_cases hi : i < m
      · obtain ⟨_, _, h0, h1⟩ := hc i hi
        obtain ⟨x, _, _, e0, _⟩ := trod_i64 Tryz.underlying3 h0
        obtain ⟨u, e1, _⟩ := trod_tx Tryz.underlying9 h1
        exact ⟨(x, u), fun _ => ⟨e0, e1⟩⟩
      · exact ⟨(0, []), fun h => absurd h hi⟩
    let S : Nat → Bk.Sl := fun i => (hs i).choose
    have hS : ∀ i, i < m → V0 i = iv (S i).1 ∧ V1 i = tx (S i).2 := fun i hi => (hs i).choose_spec hi
    have hlen : ((List.range len).map S).length = len := by simp
    refine ⟨(List.range len).map S, ?_, ?_, .inr ⟨_, _, rfl, by simp⟩⟩
    · by_cases h0 : m = 0
      · obtain rfl : len = 0 := by omega
        subst h0
        exact .inl ⟨some a, rfl, by simp⟩
      · obtain ⟨h1, _, _, _⟩ := hc 0 (by omega)
        obtain ⟨b, off, spot⟩ := a
        have hspot : spot = none := by simpa [Addr.add] using World.cell?_spot h1
        subst hspot
        refine .inr ⟨b, off, m, by rw [hlen], by omega, hcap, fun i hi => ?_⟩
        have hi' : i < len := by rw [hlen] at hi; exact hi
        obtain ⟨c0, c1, _, _⟩ := hc i (by omega)
        have ha : ∀ j, (⟨b, off, none⟩ : Addr).add j = ⟨b, off + j, none⟩ := fun j => by unfold Addr.add; split <;> simp_all
        rw [ha] at c0 c1
        obtain ⟨e0, e1⟩ := hS i (by omega)
        rw [e0] at c0
        rw [e1] at c1
        have hg : ((List.range len).map S)[i] = S i := by simp
        rw [hg]
        exact ⟨c0, c1⟩
    · rw [hlen]
      simp only [Rows.uptoBulk]
      have := bulk_len (H := H) (fun i => .agg [D0 i, D1 i]) len
      omega
/-- No row of seals is longer than what a row's bytes may be. -/
theorem seals_reach {H : Type} {l : List Bk.Sl} {d : DataW H} (hd : l = [] ∨ ∃ es sp, d = .slice es sp ∧ es.length = l.length) (h : (DataW.weights Tryz.prog 46 d).all (· ≤ reachBytes) = true) : l.length ≤ 5864062014634 := by
  rcases hd with rfl | ⟨es, sp, rfl, he⟩
  · simp
  · have hb : Tryz.prog.bytesOf 45 = 24 := by kernel_rfl
    simp only [DataW.weights, Tryz.underlying46, hb, List.all_cons, Bool.and_eq_true, decide_eq_true_iff] at h
    have h1 := h.1
    unfold reachBytes at h1
    omega
end Go.Proofs.YtflmfbcjmjlkbaaGreatDoor
namespace Cr
/-- Three who have sealed a text. -/
def three (t : List UInt8) : List Bk.Sl := [(1, t), (2, t), (3, t)]
theorem ex_all (t : List UInt8) : Bk.all (three t) 7 t = true := by
  unfold Bk.all
  rw [show Se.list 7 = [1, 2, 3] from by decide]
  simp [Bk.has, three]
theorem ex_ok (b : List Bk.Sl) (h : Bk.all b 7 (yd (vdig (1, 1, [], [], 0, 0))) = true) : check 4 b ((1, 1, [], [], 0, 0), 7) = 0 :=
  check_of ((fits_of (p := ((1, 1, [], [], 0, 0), 7)) Vt.ex_may).trans (by decide)) h
theorem ex_more (b : List Bk.Sl) : check 4 b ((1, 1, [], [], 0, 0), 3) = 2 := by
  have hf : fits ((1, 1, [], [], 0, 0), 3) 4 = 2 := (fits_of (p := ((1, 1, [], [], 0, 0), 3)) Vt.ex_may).trans (by decide)
  rw [check_no (by rw [hf]; omega), hf]
end Cr
namespace Go.Proofs.YtflmfbcjmjlkbaaGreatDoor
open Go.RowKit Go.ChangeShapes Go.WideShapes Go.ChangeAt
set_option maxRecDepth 100000
attribute [local go_sem] ByteArray.mk_append_mk
theorem pcheck_eq {n : Int} {b : List Bk.Sl} {p : Cr.Prf} {r : Nat} (h : Cr.check n b p = r) (bkv bv pv : Value) (w : World) (hk : FlatAt w bkv 2 (seals b)) (hl : b.length ≤ 140737488351232) (hb : BtsAt w bv p.1.2.2.1) (hp : TxAt w pv p.1.2.2.2.1) (mv : Vt.Mod p.1) (hx : p.2 < 18446744073709551616) (n1 : -9223372036854775808 ≤ n) (n2 : n ≤ 9223372036854775807) (hw : GW w) :
    Calls Tryz.prog 12 #[.int .i64 n, bkv, prfV p.1.1 p.1.2.1 bv pv p.1.2.2.2.2.1 p.1.2.2.2.2.2 p.2] w fun e w' => e = .returned (.int .i64 r) ∧ Below w.heap.size w w' := by subst h; exact pcheck n b p bkv bv pv w hk hl hb hp mv hx n1 n2 hw
set_option maxHeartbeats 4000000 in
theorem certShown (w : World) (hw : GW w) : Calls Tryz.prog 4 #[] w fun e w' => e = .returned (.bool true) ∧ Below w.heap.size w w' := by
  have HW := Lib.hid hw
  obtain ⟨d, hd⟩ : ∃ d, Cr.vdig (1, 1, [], [], 0, 0) = d := ⟨_, rfl⟩
  have hd32 : d.length = 32 := by rw [← hd]; exact sum_32 _
  have hD : Vt.digestR (1, 1, [], [], 0, 0) 4 = (d, 0) := by rw [Vt.digestR_ok Vt.ex_may]; exact congrArg (·, 0) hd
  have hmod : Vt.Mod (1, 1, [], [], 0, 0) := Vt.mod_may Vt.ex_may
  have e1 := fun W => cat_run [121] d (by simp; omega) W
  obtain ⟨t, ht⟩ : ∃ t, Cr.yd d = t := ⟨_, rfl⟩
  have ht' : [121] ++ d = t := ht
  rw [ht'] at e1
  have C7 := Lib.hid (Cr.ex_ok (Cr.three t) (by rw [hd, ht]; exact Cr.ex_all t))
  have C3 := Lib.hid (Cr.ex_more (Cr.three t))
  have HD := Lib.hid hD
  have HM := Lib.hid hmod
  have HT := Lib.hid ht
  have hbb : ∀ W : World, BtsAt W (.slice none 0 0) ([] : List Bt.Bat) := fun W => ⟨[], .inl ⟨none, 0, rfl, rfl⟩, trivial⟩
  have hpp : ∀ W : World, TxAt W (.slice none 0 0) ([] : List (List UInt8)) := fun W => .inl ⟨none, 0, rfl, rfl⟩
  have HBB := Lib.hid hbb
  have HPP := Lib.hid hpp
  have V0 := Lib.hid (VBox.new w 1 1 (.slice none 0 0) (.slice none 0 0) 0 0)
  have G0 := Lib.hid (show Below w.heap.size w (w.alloc (.cells #[.int .i64 1, .int .i64 1, .slice none 0 0, .slice none 0 0, .int .i64 0, .int .i64 0] 27)) from (Below.refl _ _).alloc (Nat.le_refl _) _)
  clear hw hd hD hmod ht ht' hbb hpp
  go_enter Tryz.func4, Tryz.ntmps4
  go_wp2_with fail
  refine (rvdigest_eq (v := (1, 1, [], [], 0, 0)) (n := 4) HD.out _ _ _ (HBB.out _) (HPP.out _) HM.out (by omega) (by omega)).mono ?_
  rintro e w1 ⟨rfl, g1⟩
  have V1 := Lib.hid (V0.out.kept g1)
  have G1 := Lib.hid (G0.out.trans (g1.mono (by simp)))
  have g2 : Below w1.heap.size w1 (w1.alloc (.cells #[.int .i64 1, tx t, .int .i64 2, tx t, .int .i64 3, tx t] 45)) := (Below.refl _ _).alloc (Nat.le_refl _) _
  have V2 := Lib.hid (V1.out.kept g2)
  have G2 := Lib.hid (grow_trans G1.out g2)
  have HK := Lib.hid (show FlatAt (w1.alloc (.cells #[.int .i64 1, tx t, .int .i64 2, tx t, .int .i64 3, tx t] 45)) (.slice (some ⟨w1.heap.size, 0, none⟩) 3 3) 2 (seals (Cr.three t)) from
    .inr ⟨w1.heap.size, 0, 3, 3, rfl, rfl, fun i hi => by
      have hi' : i < 6 := hi
      match i, hi' with
      | 0, _ => simp [seals, Cr.three, iv]
      | 1, _ => simp [seals, Cr.three, iv]
      | 2, _ => simp [seals, Cr.three, iv]
      | 3, _ => simp [seals, Cr.three, iv]
      | 4, _ => simp [seals, Cr.three, iv]
      | 5, _ => simp [seals, Cr.three, iv]⟩)
  obtain ⟨c0, c1, c2, c3, c4, c5⟩ := V2.out.cells
  clear g1 g2
  go_wp2_with fail
  refine (pcheck_eq (n := 4) (p := ((1, 1, [], [], 0, 0), 7)) C7.out _ _ _ _ HK.out (by simp [Cr.three]) (HBB.out _) (HPP.out _) HM.out (by simp) (by omega) (by omega) (HW.out.below G2.out)).mono ?_
  rintro e w3 ⟨rfl, g3⟩
  have V3 := Lib.hid (V2.out.kept g3)
  have G3 := Lib.hid (grow_trans G2.out g3)
  have HK3 := Lib.hid (HK.out.below g3)
  clear c0 c1 c2 c3 c4 c5 g3
  obtain ⟨c0, c1, c2, c3, c4, c5⟩ := V3.out.cells
  go_wp2_with fail
  refine (pcheck_eq (n := 4) (p := ((1, 1, [], [], 0, 0), 3)) C3.out _ _ _ _ HK3.out (by simp [Cr.three]) (HBB.out _) (HPP.out _) HM.out (by simp) (by omega) (by omega) (HW.out.below G3.out)).mono ?_
  rintro e w4 ⟨rfl, g4⟩
  have G4 := Lib.hid (grow_trans G3.out g4)
  clear c0 c1 c2 c3 c4 c5 g4
  go_wp2_with fail
  refine (pvote d (by omega) _).mono ?_
  rw [HT.out]
  rintro e w5 ⟨rfl, rfl⟩
  go_wp2
  go_ret
  exact ⟨rfl, G4.out⟩
end Go.Proofs.YtflmfbcjmjlkbaaGreatDoor
namespace Go.Proofs.YtflmfbcjmjlkbaaGreatDoor
open Go.RowKit Go.ChangeShapes Go.WideShapes Go.ChangeAt
set_option maxRecDepth 100000
attribute [local go_sem] ByteArray.mk_append_mk
section
variable {H : Type} {enc : TypeId × Value → H} {W : World}
theorem elem_prf (n : Nat) (cs : List Value) (x : DataW H × List MemPlace) (hl : cs.length = 7) (h : DataW.trod enc Tryz.prog W 0 (fun _ => true) true n 30 cs = some x) (hsz : (DataW.weights Tryz.prog 30 x.1).all (· ≤ reachBytes) = true) :
    ∃ (p : Cr.Prf) (bv pv : Value), cs = [.int .i64 p.1.1, .int .i64 p.1.2.1, bv, pv, .int .i64 p.1.2.2.2.2.1, .int .i64 p.1.2.2.2.2.2, .int .u64 p.2] ∧ BtsAt W bv p.1.2.2.1 ∧ TxAt W pv p.1.2.2.2.1 ∧ Vt.Mod p.1 ∧ p.2 < 18446744073709551616 := by
  obtain ⟨xs, m, _, rfl, _, hlen, hf⟩ := DataW.trod_struct Tryz.underlying30 h
  have k1 : Tryz.prog.cellsOf 27 = 6 := by kernel_rfl
  have k2 : Tryz.prog.cellsOf 28 = 1 := by kernel_rfl
  match cs, hl, xs, hlen with
  | [e0, e1, e2, e3, e4, e5, e6], _, [y0, y1], _ =>
    have h0 := hf 0 _ rfl
    have h1 := hf 1 _ rfl
    simp only [List.map_cons, List.map_nil, DataW.weights, Tryz.underlying30] at hsz
    obtain ⟨v, bv, pv, he, hb, hp, l1, l2, l3⟩ := elem_vtx (W := W) m [e0, e1, e2, e3, e4, e5] y0 rfl (by simpa [k1] using h0) (sized_at hsz (j := 0) rfl rfl)
    simp only [List.cons.injEq, and_true] at he
    obtain ⟨rfl, rfl, rfl, rfl, rfl, rfl⟩ := he
    obtain ⟨z, hz, _, wz⟩ := DataW.trod_int Tryz.underlying28 (show DataW.trod enc Tryz.prog W 0 (fun _ => true) true m 28 [e6] = some y1 by simpa [k2] using h1)
    cases hz
    have hb2 : 0 ≤ z ∧ z ≤ 18446744073709551615 := by simpa [Lit.wf, IntKind.min, IntKind.max, IntKind.signed, IntKind.bits] using wz
    obtain ⟨q, rfl⟩ := Int.eq_ofNat_of_zero_le hb2.1
    exact ⟨(v, q), _, _, rfl, hb, hp, ⟨by show v.2.2.1.length ≤ 140737488351232; omega, l2, by show v.2.2.2.1.length ≤ 140737488351232; omega⟩, by show q < 18446744073709551616; omega⟩
end
end Go.Proofs.YtflmfbcjmjlkbaaGreatDoor
namespace Go.Proofs.YtflmfbcjmjlkbaaGreatDoor
open Go.RowKit
set_option maxRecDepth 100000
attribute [local go_sem] ByteArray.mk_append_mk
theorem rcvmay {v : Vt.Vtx} {n : Int} {r : Bool} (h : Vt.may v n = r) (bv pv : Value) (w : World) (hb : BtsAt w bv v.2.2.1) (hp : TxAt w pv v.2.2.2.1) (mv : Vt.Mod v) (n1 : -9223372036854775808 ≤ n) (n2 : n ≤ 9223372036854775807) :
    Calls Tryz.prog 42 #[vtxV v.1 v.2.1 bv pv v.2.2.2.2.1 v.2.2.2.2.2, .int .i64 n] w fun e w' => e = .returned (.bool r) ∧ Below w.heap.size w w' := by subst h; exact rvmay v bv pv n w hb hp mv.b mv.p n1 n2
theorem rcwithin {v : Nat} {n : Int} {r : Bool} (h : Se.within v n = r) (hv : v < 18446744073709551616) (h1 : -9223372036854775808 ≤ n) (h2 : n ≤ 9223372036854775807) (w : World) :
    Calls Tryz.prog 43 #[.int .u64 v, .int .i64 n] w fun e w' => e = .returned (.bool r) ∧ Below w.heap.size w w' := by subst h; exact rwithin_any v n hv h1 h2 w
theorem rccount {v c : Nat} (h : Se.count v = c) (hv : v < 18446744073709551616) (w : World) :
    Calls Tryz.prog 44 #[.int .u64 v] w fun e w' => e = .returned (.int .i64 c) ∧ Below w.heap.size w w' := by subst h; exact rcount_any v hv w
set_option maxHeartbeats 4000000 in
theorem rfits (n : Int) (p : Cr.Prf) (bv pv : Value) (w : World) (hb : BtsAt w bv p.1.2.2.1) (hp : TxAt w pv p.1.2.2.2.1) (mv : Vt.Mod p.1) (hx : p.2 < 18446744073709551616) (n1 : -9223372036854775808 ≤ n) (n2 : n ≤ 9223372036854775807) :
    Calls Tryz.prog 18 #[prfV p.1.1 p.1.2.1 bv pv p.1.2.2.2.2.1 p.1.2.2.2.2.2 p.2, .int .i64 n] w fun e w' => e = .returned (.int .i64 (Cr.fits p n)) ∧ Below w.heap.size w w' := by
  have MV := Lib.hid mv
  obtain ⟨v, x⟩ := p
  simp only [] at hb hp hx
  obtain ⟨m, hm⟩ : ∃ m, Vt.may v n = m := ⟨_, rfl⟩
  obtain ⟨z, hz⟩ : ∃ z, Se.within x n = z := ⟨_, rfl⟩
  obtain ⟨c, hc⟩ : ∃ c, Se.count x = c := ⟨_, rfl⟩
  obtain ⟨q, hq⟩ : ∃ q, Se.quorum n = q := ⟨_, rfl⟩
  have E := Lib.hid (show Cr.fits (v, x) n = if m = true then (if z = true then (if (c : Int) < q then 2 else 0) else 4) else 1 by rw [Cr.fits, Cr.enough, hm, hz, hc, hq])
  have HM := Lib.hid hm
  have HZ := Lib.hid hz
  have HC := Lib.hid hc
  have HQ := Lib.hid hq
  have HB := Lib.hid hb
  have HP := Lib.hid hp
  obtain ⟨ab, cb, hbe⟩ := hb.len
  obtain ⟨ap, cp, hpe⟩ := hp.len
  obtain ⟨a, r, bs, ps, y, z'⟩ := v
  simp only [] at hbe hpe HB HP
  subst hbe hpe
  have P0 := Lib.hid (PBox.new w a r (.slice ab bs.length cb) (.slice ap ps.length cp) y z' x)
  have HG := Lib.hid (show Below w.heap.size w (w.alloc (.cells #[.int .i64 a, .int .i64 r, .slice ab bs.length cb, .slice ap ps.length cp, .int .i64 y, .int .i64 z', .int .u64 x] 30)) from (Below.refl _ _).alloc (Nat.le_refl _) _)
  obtain ⟨c0, c1, c2, c3, c4, c5, c6⟩ := P0.out.cells
  clear hb hp hm hz hc hq mv
  go_enter Tryz.func18, Tryz.ntmps18
  go_wp2_with fail
  refine (rcvmay (v := (a, r, bs, ps, y, z')) HM.out _ _ _ (HB.out.below HG.out) (HP.out.below HG.out) MV.out n1 n2).mono ?_
  rintro e w1 ⟨rfl, g1⟩
  have P1 := Lib.hid (P0.out.kept g1)
  have G1 := Lib.hid (HG.out.trans (g1.mono (by simp)))
  clear g1 c0 c1 c2 c3 c4 c5 c6
  cases m with
  | false =>
    go_wp2
    go_ret
    exact ⟨by rw [E.out]; rfl, G1.out⟩
  | true =>
    obtain ⟨c0, c1, c2, c3, c4, c5, c6⟩ := P1.out.cells
    go_wp2_with fail
    refine (rcwithin HZ.out hx n1 n2 _).mono ?_
    rintro e w2 ⟨rfl, g2⟩
    have P2 := Lib.hid (P1.out.kept g2)
    have G2 := Lib.hid (grow_trans G1.out g2)
    clear g2 c0 c1 c2 c3 c4 c5 c6
    cases z with
    | false =>
      go_wp2
      go_ret
      exact ⟨by rw [E.out]; rfl, G2.out⟩
    | true =>
      obtain ⟨c0, c1, c2, c3, c4, c5, c6⟩ := P2.out.cells
      go_wp2_with fail
      refine (rccount HC.out hx _).mono ?_
      rintro e w3 ⟨rfl, g3⟩
      have G3 := Lib.hid (grow_trans G2.out g3)
      clear g3 c0 c1 c2 c3 c4 c5 c6
      go_wp2_with fail
      refine (rquorum_eq HQ.out n1 n2 _).mono ?_
      rintro e w4 ⟨rfl, rfl⟩
      by_cases hlt : (c : Int) < q
      · have E2 := Lib.hid (show Cr.fits ((a, r, bs, ps, y, z'), x) n = 2 by rw [E.out]; simp [hlt])
        have t1 : decide ((c : Int) < q) = true := decide_eq_true hlt
        clear hlt
        go_wp2
        go_ret
        exact ⟨by rw [E2.out]; rfl, G3.out⟩
      · have E2 := Lib.hid (show Cr.fits ((a, r, bs, ps, y, z'), x) n = 0 by rw [E.out]; simp [hlt])
        have t1 : decide ((c : Int) < q) = false := decide_eq_false hlt
        clear hlt
        go_wp2
        go_ret
        exact ⟨by rw [E2.out]; rfl, G3.out⟩
theorem rfits_eq {n : Int} {p : Cr.Prf} {f : Nat} (h : Cr.fits p n = f) (bv pv : Value) (w : World) (hb : BtsAt w bv p.1.2.2.1) (hp : TxAt w pv p.1.2.2.2.1) (mv : Vt.Mod p.1) (hx : p.2 < 18446744073709551616) (n1 : -9223372036854775808 ≤ n) (n2 : n ≤ 9223372036854775807) :
    Calls Tryz.prog 18 #[prfV p.1.1 p.1.2.1 bv pv p.1.2.2.2.2.1 p.1.2.2.2.2.2 p.2, .int .i64 n] w fun e w' => e = .returned (.int .i64 f) ∧ Below w.heap.size w w' := by subst h; exact rfits n p bv pv w hb hp mv hx n1 n2
end Go.Proofs.YtflmfbcjmjlkbaaGreatDoor
