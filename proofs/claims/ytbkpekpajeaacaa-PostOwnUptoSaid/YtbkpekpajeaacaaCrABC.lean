/- Stage 10's contracts, as post wants them. -/
import Derived.Test.YtbkpekpajeaacaaGVtx
import Derived.Test.YtbkpekpajeaacaaGCM
import Derived.Test.YtbkpekpajeaacaaGDig
import Derived.Test.YtbkpekpajeaacaaVRB
import Derived.Test.YtbkpekpajeaacaaVtxA
import Derived.Test.YtbkpekpajeaacaaVtxBC
import Derived.RangeFuncNested
import Derived.RangeFuncBound
import Derived.RangeFuncCalls
import Derived.RangeFuncLeaves
import Derived.Shelf.Abstract
import Derived.Shelf.RegionOpen
import Derived.WalkKit
import Derived.OwnWalkIn
import Derived.TacticsInMore
import Derived.LoopNIn
import Derived.LoopIn
import Derived.Maps.AppendAt
import Derived.Deep.QuietTactic
import Derived.BigQuiet
import Derived.Laws.StructEq
import Derived.Laws.BitsAll
import Derived.Deep.SlicePairs
import Derived.Lib.SmallJoins
import Derived.RangeFuncBox
import Derived.Deep.RegionHeld3
import Derived.Laws.BitsAllLaws
import Derived.Lib.Strings
set_option maxRecDepth 100000
namespace Go.Proofs.Ytbkpekpajeaacaa
open Go.RowKit
def ids (l : List Nat) : List Value := l.map fun (i : Nat) => iv (i : Int)
theorem info_int : (Try.prog.info? 3).map (fun i => (i.zero, i.size, i.bytes)) = some (some (.int .i64 0), 1, 8) := by kernel_rfl
set_option maxHeartbeats 2000000 in
theorem rlist_any (v : Nat) (hv : v < 18446744073709551616) (w : World) :
    Calls Try.prog 122 #[.int .u64 v] w fun e w' => ∃ s, e = .returned s ∧ FlatAt w' s 1 (ids (Se.list v)) ∧ Below w.heap.size w w' := by
  obtain ⟨i0, hi, hz0, hz1, hz2⟩ := info_parts info_int
  go_enter Try.func122, Try.ntmps122
  go_wp2_with fail
  go_loopw [0, 3, 4] (fun x s i wr => ∃ k : Nat, i = .int .i64 (k + 1 : Nat) ∧ k ≤ 64 ∧ x = .int .u64 (v / 2 ^ k : Nat) ∧ Below w.heap.size w wr ∧ wr.ownsRow w.heap.size 3 1 s (Se.listTo v k).length (ids (Se.listTo v k))) (fun _ _ i _ => 65 - (intOf i).toNat)
  case atStart => exact ⟨0, rfl, by omega, by simp, Below.refl _ _, ⟨by simp [ids, Se.listTo], .inl ⟨rfl, rfl⟩⟩⟩
  case round =>
    obtain ⟨k, rfl, hk, rfl, hbel, hown⟩ := hrel
    by_cases hlt : k < 64
    · have hx : v / 2 ^ k < 18446744073709551616 := Nat.lt_of_le_of_lt (Nat.div_le_self _ _) hv
      obtain ⟨x, hxe⟩ : ∃ x, v / 2 ^ k = x := ⟨_, rfl⟩
      rw [hxe] at hx
      have hnext : v / 2 ^ (k + 1) = x / 2 := by rw [Nat.pow_succ, ← Nat.div_div_eq_div_mul, hxe]
      have hll := Se.listTo_len v k
      by_cases hb : v.testBit k = true
      · have h1 : ((x : Int) % 2 == 1) = true := by
          have := (Se.half_bit v k).2 hb
          rw [hxe] at this
          rw [beq_iff_eq]; omega
        have hst : Se.listTo v (k + 1) = Se.listTo v k ++ [k + 1] := by rw [Se.listTo_step, if_pos hb]
        have HO := Lib.hid hown
        have HX := Lib.hid hxe
        have HN := Lib.hid hnext
        have HS := Lib.hid hst
        clear hown hxe hnext hst hb
        rw [HX.out]
        go_wp2_with (at_builtin; refine wpList_append_own _ rfl _ _ 93 rfl w.heap.size 3 i0 (.int .i64 0) 1 8 Try.underlying93 hi hz0 hz1 hz2 rfl (by decide) _ _ _ rfl (HO.out.alloc _) ⟨wr.heap.size, 0, none⟩ 1 1 [.int .i64 ((k : Int) + 1)] rfl rfl ?c1 ?c2 ?c3 ?c4 ?c5 ?_)
        case c1 => exact new_cell _ _ rfl _ _
        case c2 => intro u hu; simp at hu; subst hu; rfl
        case c3 => unfold maxLen; omega
        case c4 => omega
        case c5 => have := hbel.size; simp; omega
        intro s' w2 hown2 hgrow _
        have hsz := hbel.size
        have hown3 : w2.ownsRow w.heap.size 3 1 s' (Se.listTo v (k + 1)).length (ids (Se.listTo v (k + 1))) := by
          rw [HS.out]; simpa [ids, iv] using hown2
        have hbel2 : Below w.heap.size w w2 := (hbel.alloc hsz _).grown hgrow (by simp; omega) (fun k hk => (HO.out.lt k hk).1)
        have HO3 := Lib.hid hown3
        clear hown2 hown3 hgrow HO HS HX
        go_wp2
        go_roundw
        case rel => exact ⟨k + 1, by go_num, by omega, by rw [HN.out]; rfl, hbel2, HO3.out⟩
        case measure => simp [intOf]; omega
      · have h1 : ((x : Int) % 2 == 1) = false := by
          have : ¬ v / 2 ^ k % 2 = 1 := fun e => hb ((Se.half_bit v k).1 e)
          rw [hxe] at this
          rw [beq_eq_false_iff_ne]; omega
        have hst : Se.listTo v (k + 1) = Se.listTo v k := by rw [Se.listTo_step, if_neg hb, List.append_nil]
        rw [← hst] at hown
        have HO := Lib.hid hown
        have HX := Lib.hid hxe
        have HN := Lib.hid hnext
        clear hown hxe hnext hst hb
        rw [HX.out]
        go_wp2
        go_roundw
        case rel => exact ⟨k + 1, by go_num, by omega, by rw [HN.out]; rfl, hbel, HO.out⟩
        case measure => simp [intOf]; omega
    · obtain rfl : k = 64 := by omega
      have HO := Lib.hid hown
      clear hown
      go_wp2
      go_ret
      exact ⟨_, rfl, FlatAt.own HO.out, hbel⟩
theorem ids_len (l : List Nat) : (ids l).length = l.length * 1 := by simp [ids]
theorem ids_at (l : List Nat) (k : Nat) (h : k < l.length) : (ids l)[k]'(by simpa [ids] using h) = iv (l[k] : Nat) := by simp [ids]
/-- What a list of seats is, behind a call. -/
theorem rlist_open {w w' : World} {s : Value} {l : List Nat} (h : FlatAt w s 1 (ids l)) (hb : Below w.heap.size w w') :
    (l = [] ∧ ∃ a cap, s = .slice a 0 cap) ∨ ∃ b off cap, s = .slice (some ⟨b, off, none⟩) l.length cap ∧ ∀ k (hk : k < l.length), w'.cell? ⟨b, off + k, none⟩ = some (iv (l[k] : Nat)) := by
  by_cases h0 : l.length = 0
  · have e : l = [] := List.length_eq_zero_iff.1 h0
    obtain ⟨a, cap, rfl⟩ := h.len (n := l.length) (ids_len l) (by omega)
    subst e
    exact .inl ⟨rfl, _, _, rfl⟩
  · obtain ⟨b, off, cap, rfl, hc⟩ := h.at (n := l.length) (ids_len l) (by omega) (by omega)
    refine .inr ⟨b, off, cap, rfl, fun k hk => ?_⟩
    have := below_cell hb (hc k (by rw [ids_len]; omega))
    rw [this, ids_at l k hk]
theorem list_len64 (v : Nat) : (Se.list v).length ≤ 64 := Se.listTo_len v 64
theorem list_max (v : Nat) (k : Nat) (h : k < (Se.list v).length) : 1 ≤ (Se.list v)[k] ∧ (Se.list v)[k] ≤ 64 := by
  have := (Se.list_mem v (Se.list v)[k]).1 (List.getElem_mem h)
  exact ⟨this.1, this.2.1⟩
set_option maxHeartbeats 2000000 in
theorem rcount_any (v : Nat) (hv : v < 18446744073709551616) (w : World) :
    Calls Try.prog 106 #[.int .u64 v] w fun e w' => e = .returned (.int .i64 (Se.count v)) ∧ Below w.heap.size w w' := by
  go_enter Try.func106, Try.ntmps106
  go_wp2_with fail
  refine (rlist_any v hv _).mono ?_
  rintro e w1 ⟨s, rfl, hs, hb⟩
  obtain ⟨a, cap, rfl⟩ := hs.len (n := (Se.list v).length) (ids_len _) (by omega)
  clear hs
  go_wp2
  go_ret
  exact ⟨rfl, hb⟩
theorem ints_ids (l : List Nat) : ids l = ints (l.map fun (i : Nat) => (i : Int)) := by simp [ids, ints]
set_option maxHeartbeats 400000 in
theorem rwithin_any (v : Nat) (n : Int) (hv : v < 18446744073709551616) (h1 : -9223372036854775808 ≤ n) (h2 : n ≤ 9223372036854775807) (w : World) :
    Calls Try.prog 105 #[.int .u64 v, .int .i64 n] w fun e w' => e = .returned (.bool (Se.within v n)) ∧ Below w.heap.size w w' := by
  by_cases hr : 0 ≤ n ∧ n ≤ 64
  · obtain ⟨hr1, hr2⟩ := hr
    have hw : Se.within v n = (Se.list v).all fun i => decide ((i : Int) ≤ n) := by simp [Se.within, hr1, hr2]
    have hl := list_len64 v
    have hla := fun (h : (Se.list v).length - 1 < (Se.list v).length) => Se.all_last (Se.list v) h (Se.list_up v) n
    obtain ⟨l, hle⟩ : ∃ l, Se.list v = l := ⟨_, rfl⟩
    rw [hle] at hw hl hla
    have HL := Lib.hid hle
    have HW := Lib.hid hw
    have HA := Lib.hid hla
    have hd1 : ¬ n < 0 := by omega
    have hd2 : ¬ 64 < n := by omega
    clear hle hw hla
    go_enter Try.func105, Try.ntmps105
    go_wp2_with fail
    refine (rlist_any v hv _).mono ?_
    rintro e w1 ⟨s, rfl, hs, hb⟩
    rw [HL.out] at hs
    have hop := rlist_open hs (Below.refl _ _)
    have HB := Lib.hid hb
    clear hs hb
    rcases hop with ⟨rfl, a, cap, rfl⟩ | ⟨b, off, cap, rfl, hc⟩
    · go_wp2
      go_ret
      exact ⟨by rw [HW.out]; rfl, HB.out⟩
    · by_cases h0 : l.length = 0
      · have e : l = [] := List.length_eq_zero_iff.1 h0
        subst e
        go_wp2
        go_ret
        exact ⟨by rw [HW.out]; rfl, HB.out⟩
      · obtain ⟨m, hm⟩ : ∃ m, l.length = m + 1 := ⟨l.length - 1, by omega⟩
        have hcm := hc m (by omega)
        have hAm := HA.out (by omega)
        have em : l.length - 1 = m := by omega
        simp only [em] at hAm
        simp only [iv] at hcm
        obtain ⟨x, hx⟩ : ∃ x, l[m] = x := ⟨_, rfl⟩
        rw [hx] at hcm hAm
        have hmb : m ≤ 64 := by omega
        have hxm : x ≤ 64 := by
          have := (Se.list_mem v l[m]).1 (by rw [HL.out]; exact List.getElem_mem _)
          omega
        have hf : Se.within v n = decide ((x : Int) ≤ n) := by rw [HW.out, hAm]
        have HF := Lib.hid hf
        rw [hm]
        clear hc hAm hm em h0 hx hf HA HW
        have hz : ((m : Int) + 1 == 0) = false := by rw [beq_eq_false_iff_ne]; omega
        clear HL hr1 hr2 h1 h2 hl
        go_wp2
        go_ret
        exact ⟨by rw [HF.out]; rfl, HB.out⟩
  · have hw : Se.within v n = false := by simp [Se.within, hr]
    have HW := Lib.hid hw
    clear hw
    by_cases hn : n < 0
    · clear hr
      go_enter Try.func105, Try.ntmps105
      go_wp2
      go_ret
      exact ⟨by rw [HW.out]; rfl, Below.refl _ _⟩
    · have hn2 : 64 < n := by omega
      clear hr
      go_enter Try.func105, Try.ntmps105
      go_wp2
      go_ret
      exact ⟨by rw [HW.out]; rfl, Below.refl _ _⟩
end Go.Proofs.Ytbkpekpajeaacaa
namespace Go.Proofs.Ytbkpekpajeaacaa
open Go.RowKit
theorem pis_in (id : Int) (h1 : 1 ≤ id) (h2 : id ≤ 64) (w : World) :
    Calls Try.prog 131 #[.int .i64 id] w fun e w' => e = .returned (.bool true) ∧ w' = w := by
  have t1 : decide (1 ≤ id) = true := by simpa using h1
  have t2 : decide (id ≤ 64) = true := by simpa using h2
  clear h1 h2
  go_enter Try.func131, Try.ntmps131
  go_wp2
  go_ret
  exact ⟨rfl, rfl⟩
theorem pis_out (id : Int) (h : id < 1 ∨ 64 < id) (w : World) :
    Calls Try.prog 131 #[.int .i64 id] w fun e w' => e = .returned (.bool false) ∧ w' = w := by
  by_cases h1 : 1 ≤ id
  · have t1 : decide (1 ≤ id) = true := by simpa using h1
    have t2 : decide (id ≤ 64) = false := by simp; omega
    clear h1 h
    go_enter Try.func131, Try.ntmps131
    go_wp2
    go_ret
    exact ⟨rfl, rfl⟩
  · have t1 : decide (1 ≤ id) = false := by simpa using h1
    clear h1 h
    go_enter Try.func131, Try.ntmps131
    go_wp2
    go_ret
    exact ⟨rfl, rfl⟩
theorem wrap_pow (k : Nat) (h : k ≤ 63) : IntKind.u64.wrap ((2 : Int) ^ k) = ((2 ^ k : Nat) : Int) := by
  have h2 : (2 : Nat) ^ k ≤ 2 ^ 63 := Nat.pow_le_pow_right (by omega) h
  have e : ((2 ^ k : Nat) : Int) = (2 : Int) ^ k := by simp
  rw [← e]
  generalize 2 ^ k = x at h2
  exact IntWalk.u64_in _ ⟨by omega, by omega⟩
theorem pmask_in (k : Nat) (h : k ≤ 63) (w : World) :
    Calls Try.prog 132 #[.int .i64 (k + 1 : Nat)] w fun e w' => e = .returned (.int .u64 (2 ^ k : Nat)) ∧ w' = w := by
  go_enter Try.func132, Try.ntmps132
  go_wp2
  go_ret
  exact ⟨by rw [wrap_pow k h]; rfl, rfl⟩
theorem and_bit (v k : Nat) : v &&& 2 ^ k = if v.testBit k then 2 ^ k else 0 := by
  apply Nat.eq_of_testBit_eq
  intro i
  rw [Nat.testBit_and, Nat.testBit_two_pow]
  by_cases e : k = i
  · subst e
    cases h : v.testBit k with
    | true => simp
    | false => simp
  · cases h : v.testBit k with
    | true => simp [e]
    | false => simp [e]
theorem bits_and_pow (v k : Nat) (hv : v < 18446744073709551616) (hk : k ≤ 63) : bits .and .u64 (v : Int) ((2 ^ k : Nat) : Int) = if v.testBit k then ((2 ^ k : Nat) : Int) else 0 := by
  have h2 : (2 : Nat) ^ k ≤ 2 ^ 63 := Nat.pow_le_pow_right (by omega) hk
  have h3 : 2 ^ k < 18446744073709551616 := by generalize 2 ^ k = x at *; omega
  rw [u64_and_nat v _ hv h3, and_bit]
  cases h : v.testBit k <;> simp
theorem phas_in (v k : Nat) (hv : v < 18446744073709551616) (hk : k ≤ 63) (w : World) :
    Calls Try.prog 129 #[.int .u64 v, .int .i64 (k + 1 : Nat)] w fun e w' => e = .returned (.bool (v.testBit k)) ∧ w' = w := by
  have hand := bits_and_pow v k hv hk
  have hp : (0 : Nat) < 2 ^ k := Nat.two_pow_pos k
  have hm := fun W => pmask_in k hk W
  have hi := fun W => pis_in ((k + 1 : Nat) : Int) (by omega) (by omega) W
  generalize 2 ^ k = p at *
  cases hb : v.testBit k with
  | true =>
    rw [hb, if_pos rfl] at hand
    have HA := Lib.hid hand
    have HP := Lib.hid hp
    clear hand hb hp
    go_enter Try.func129, Try.ntmps129
    go_wp2_with fail
    refine (hi _).mono ?_
    rintro e w1 ⟨rfl, rfl⟩
    go_wp2_with fail
    refine (hm _).mono ?_
    rintro e w1 ⟨rfl, rfl⟩
    go_wp2
    go_ret
    exact ⟨by rw [HA.out]; have := HP.out; simp; omega, rfl⟩
  | false =>
    rw [hb, if_neg (by decide)] at hand
    have HA := Lib.hid hand
    clear hand hb hp
    go_enter Try.func129, Try.ntmps129
    go_wp2_with fail
    refine (hi _).mono ?_
    rintro e w1 ⟨rfl, rfl⟩
    go_wp2_with fail
    refine (hm _).mono ?_
    rintro e w1 ⟨rfl, rfl⟩
    go_wp2
    go_ret
    exact ⟨by rw [HA.out]; simp, rfl⟩
theorem phas_out (v : Nat) (id : Int) (h : id < 1 ∨ 64 < id) (w : World) :
    Calls Try.prog 129 #[.int .u64 v, .int .i64 id] w fun e w' => e = .returned (.bool false) ∧ w' = w := by
  go_enter Try.func129, Try.ntmps129
  go_wp2_with fail
  refine (pis_out id h _).mono ?_
  rintro e w1 ⟨rfl, rfl⟩
  clear h
  go_wp2
  go_ret
  exact ⟨rfl, rfl⟩
theorem phas_any (v : Nat) (id : Int) (hv : v < 18446744073709551616) (w : World) :
    Calls Try.prog 129 #[.int .u64 v, .int .i64 id] w fun e w' => e = .returned (.bool (Se.has v id)) ∧ w' = w := by
  by_cases h : 1 ≤ id ∧ id ≤ 64
  · obtain ⟨k, rfl⟩ : ∃ k : Nat, id = ((k + 1 : Nat) : Int) := ⟨id.toNat - 1, by omega⟩
    have e : Se.has v ((k + 1 : Nat) : Int) = v.testBit k := by
      rw [Se.has_nat v (k + 1) (by omega) (by omega)]; rfl
    rw [e]
    exact phas_in v k hv (by omega) w
  · rw [Se.has_out v id (by omega)]
    exact phas_out v id (by omega) w
theorem within_lt (v m : Nat) (hv : v < 18446744073709551616) (hm : m ≤ 64) : Se.within v m = decide (v < 2 ^ m) := by
  rw [Bool.eq_iff_iff, Se.within_iff v m (by omega), decide_eq_true_iff]
  constructor
  · intro h
    apply Nat.lt_pow_two_of_testBit
    intro i hi
    cases hb : v.testBit i with
    | false => rfl
    | true =>
      by_cases h64 : 64 ≤ i
      · rw [Se.bits_above v i hv h64] at hb; cases hb
      · have := h (i + 1) ((Se.list_mem v (i + 1)).2 ⟨by omega, by omega, hb⟩)
        omega
  · intro h i hi
    obtain ⟨h1, h2, h3⟩ := (Se.list_mem v i).1 hi
    have := Nat.ge_two_pow_of_testBit h3
    have : ¬ m ≤ i - 1 := fun hle => by
      have := Nat.pow_le_pow_right (n := 2) (by omega) hle
      omega
    omega
theorem pwithin_in (v m : Nat) (_hv : v < 18446744073709551616) (hm : m ≤ 64) (w : World) :
    Calls Try.prog 102 #[.int .u64 v, .int .i64 m] w fun e w' => e = .returned (.bool (decide (v < 2 ^ m))) ∧ w' = w := by
  have hd : (((v : Int) / 2 ^ m) == 0) = decide (v < 2 ^ m) := by
    have e : (v : Int) / 2 ^ m = ((v / 2 ^ m : Nat) : Int) := by simp
    rw [e, Bool.eq_iff_iff, beq_iff_eq, decide_eq_true_iff]
    have hp := Nat.two_pow_pos m
    constructor
    · intro h
      have h0 : v / 2 ^ m = 0 := by omega
      exact (Nat.div_eq_zero_iff_lt hp).1 h0
    · intro h
      rw [(Nat.div_eq_zero_iff_lt hp).2 h]; rfl
  have HD := Lib.hid hd
  clear hd
  go_enter Try.func102, Try.ntmps102
  go_wp2
  go_ret
  exact ⟨by rw [← HD.out]; rfl, rfl⟩
theorem pwithin_any (v : Nat) (n : Int) (hv : v < 18446744073709551616) (w : World) :
    Calls Try.prog 102 #[.int .u64 v, .int .i64 n] w fun e w' => e = .returned (.bool (Se.within v n)) ∧ w' = w := by
  by_cases h : 0 ≤ n ∧ n ≤ 64
  · obtain ⟨m, rfl⟩ := Int.eq_ofNat_of_zero_le h.1
    have h2 : m ≤ 64 := by omega
    rw [show ((m : Nat) : Int) = (m : Int) from rfl, within_lt v m hv h2]
    exact pwithin_in v m hv h2 w
  · have e : Se.within v n = false := by simp [Se.within, h]
    rw [e]
    by_cases h0 : 0 ≤ n
    · have t1 : decide (0 ≤ n) = true := by simpa using h0
      have t2 : decide (n ≤ 64) = false := by simp; omega
      clear h h0 e
      go_enter Try.func102, Try.ntmps102
      go_wp2
      go_ret
      exact ⟨rfl, rfl⟩
    · have t1 : decide (0 ≤ n) = false := by simpa using h0
      clear h h0 e
      go_enter Try.func102, Try.ntmps102
      go_wp2
      go_ret
      exact ⟨rfl, rfl⟩
end Go.Proofs.Ytbkpekpajeaacaa
namespace Go.Proofs.Ytbkpekpajeaacaa
open Go.RowKit Go.Shelf
/-- Of the seats that have come, those that are in. -/
def col (v : Nat) (pre : List (Fin 64)) : List Nat := (pre.filter fun x => v.testBit x.val).map (·.val + 1)
theorem col_hit (v : Nat) (pre : List (Fin 64)) (x : Fin 64) (h : v.testBit x.val = true) : col v (pre ++ [x]) = col v pre ++ [x.val + 1] := by simp [col, h]
theorem col_miss (v : Nat) (pre : List (Fin 64)) (x : Fin 64) (h : v.testBit x.val = false) : col v (pre ++ [x]) = col v pre := by simp [col, h]
theorem col_len (v : Nat) (pre : List (Fin 64)) : (col v pre).length ≤ pre.length := by
  rw [col, List.length_map]; exact List.length_filter_le _ _
theorem col_all (v : Nat) : ∀ (k : Nat) (pre : List (Fin 64)), pre.map (·.val) = List.range k → col v pre = Se.listTo v k := by
  intro k
  induction k with
  | zero => intro pre h; simp at h; subst h; rfl
  | succ k ih =>
    intro pre h
    rw [List.range_succ] at h
    obtain ⟨q, r, rfl, hq, hr⟩ := List.map_eq_append_iff.1 h
    obtain ⟨x, rfl, hx⟩ := List.map_eq_singleton_iff.1 hr
    have := ih q hq
    rw [Se.listTo_step, ← this, ← hx]
    cases hb : v.testBit x.val with
    | true => rw [col_hit v q x hb]; simp
    | false => rw [col_miss v q x hb]; simp
end Go.Proofs.Ytbkpekpajeaacaa
namespace Go.Proofs.Ytbkpekpajeaacaa
open Go.RowKit Go.Shelf
attribute [local go_sem] Oper.semAt_some
theorem each_any (F : Fence) (n : Nat) (h : F.fn 128) (hro : F.round = none) (w : World) :
    CallsIn F n Try.prog 128 #[] w fun e w' => e = .returned (.func (.func 130) #[] #[]) ∧ w' = w := by
  refine callsIn_of_wp Try.func128 rfl h ?_ hro
  simp only [Try.ntmps128, List.size_toArray, List.length_nil, Nat.reduceSub, Array.replicate_succ, Array.replicate_zero, List.push_toArray, List.append_toArray, List.nil_append]
  gi_wp2
  go_ret
  exact ⟨rfl, rfl⟩
set_option maxRecDepth 100000 in
set_option maxHeartbeats 1000000 in
theorem each1_in (F : Fence) (n : Nat) (h : F.fn 130) (hro : F.round = none) (hn : 1 ≤ n) (l n₀ : Nat) (J Jx : List (Fin 64) → World → Prop)
    (hY : ∀ pre x W, J pre W → pre.length < 64 → YieldAt F (n - 1) Try.prog l #[.int .i64 ((x.val : Int) + 1)] W fun e W' =>
      (e = .returned (.bool true) ∧ J (pre ++ [x]) W' ∧ Below n₀ W W') ∨ (e = .returned (.bool false) ∧ Jx (pre ++ [x]) W'))
    (W : World) (h0 : J [] W) :
    CallsIn F n Try.prog 130 #[.func (.yield l) #[] #[]] W fun e W' => (∃ v, e = .returned v) ∧
      ((∃ ys, ys.map (·.val) = List.range 64 ∧ J ys W') ∨ (∃ pre, (∃ k, pre.map (·.val) = List.range k) ∧ Jx pre W')) := by
  refine callsIn_of_wp Try.func130 rfl h ?_ hro
  simp only [Try.ntmps130, List.size_toArray, List.length_cons, List.length_nil, Nat.reduceAdd, Nat.reduceSub, Array.replicate_succ, Array.replicate_zero, List.push_toArray, List.append_toArray, List.nil_append, List.cons_append]
  gi_wp2
  gi_loopw [3] (fun i wr => ∃ (k : Nat) (pre : List (Fin 64)), i = .int .i64 k ∧ k ≤ 64 ∧ pre.map (·.val) = List.range k ∧ J pre wr) (fun i _ => 64 - (intOf i).toNat)
  case atStart => exact ⟨0, [], rfl, by omega, rfl, h0⟩
  case round =>
    obtain ⟨k, pre, rfl, hk, hpre, hJs⟩ := hrel
    by_cases hlt : k < 64
    · have hlen : pre.length = k := by have := congrArg List.length hpre; simpa using this
      have hnext : (pre ++ [(⟨k, hlt⟩ : Fin 64)]).map (·.val) = List.range (k + 1) := by simp [List.range_succ, hpre]
      obtain ⟨fn, tmps, assign, body, hy, hR⟩ := hY pre ⟨k, hlt⟩ wr hJs (by omega)
      dsimp only at hy
      gi_wp2
      refine hR.mono ?_
      rintro e W3 (⟨rfl, hJ3, hk3⟩ | ⟨rfl, hJx3⟩)
      · gi_wp2
        go_roundw
        case rel => exact ⟨k + 1, _, by go_num, by omega, hnext, hJ3⟩
        case measure => simp [intOf]; omega
      · gi_wp2
        refine bodyPost_ret (results_none rfl _ _ _) rfl ?_
        exact ⟨⟨_, rfl⟩, .inr ⟨_, ⟨k + 1, hnext⟩, hJx3⟩⟩
    · obtain rfl : k = 64 := by omega
      gi_wp2
      go_end0
      exact ⟨⟨_, rfl⟩, .inl ⟨pre, hpre, hJs⟩⟩
theorem each_stops (F : Fence) (n : Nat) (h : F.fn 130) (hro : F.round = none) (hn : 1 ≤ n) (n₀ : Nat) (w : World) :
    SeqStopsK F n Try.prog 130 #[] (fun x : Fin 64 => #[Value.int .i64 ((x.val : Int) + 1)]) (Below n₀) (fun ys => ys.map (·.val) = List.range 64) (fun pre => ∃ k, pre.map (·.val) = List.range k) 64 w := fun l J Jx W _ _ _ hY h0 =>
  each1_in F n h hro hn l n₀ J Jx hY W h0
theorem info_intL : (Try.prog.info? 3).map (fun i => (i.zero, i.size, i.bytes)) = some (some (.int .i64 0), 1, 8) := by kernel_rfl
theorem shr_test (v k : Nat) : (((v : Int) / 2 ^ k) == 0) = decide (v < 2 ^ k) := by
  have e : (v : Int) / 2 ^ k = ((v / 2 ^ k : Nat) : Int) := by simp
  rw [e, Bool.eq_iff_iff, beq_iff_eq, decide_eq_true_iff]
  have hp := Nat.two_pow_pos k
  constructor
  · intro h
    have h0 : v / 2 ^ k = 0 := by omega
    exact (Nat.div_eq_zero_iff_lt hp).1 h0
  · intro h
    rw [(Nat.div_eq_zero_iff_lt hp).2 h]; rfl
theorem listTo_stop (v k : Nat) (h : v < 2 ^ k) : ∀ m, k ≤ m → Se.listTo v m = Se.listTo v k := by
  intro m
  induction m with
  | zero => intro hk; obtain rfl : k = 0 := by omega
            rfl
  | succ m ih =>
    intro hk
    by_cases e : k = m + 1
    · rw [e]
    · have hb : v.testBit m = false := Nat.testBit_lt_two_pow (Nat.lt_of_lt_of_le h (Nat.pow_le_pow_right (by omega) (by omega)))
      rw [Se.listTo_step, hb, ih (by omega)]
      simp
set_option maxRecDepth 100000 in
set_option maxHeartbeats 4000000 in
theorem plist_any (v : Nat) (hv : v < 18446744073709551616) (w : World) :
    Calls Try.prog 120 #[.int .u64 v] w fun e w' => ∃ s, e = .returned s ∧ FlatAt w' s 1 (ids (Se.list v)) ∧ Below w.heap.size w w' := by
  refine (callsIn_wide (n := 3)).1 ?_
  obtain ⟨i0, hi, hz0, hz1, hz2⟩ := info_parts info_intL
  refine callsIn_of_wp_marks Try.func120 rfl trivial ?_ rfl
  simp only [Try.ntmps120, List.size_toArray, List.length_cons, List.length_nil, Nat.reduceAdd, Nat.reduceSub, Array.replicate_succ, Array.replicate_zero, List.push_toArray, List.append_toArray, List.nil_append, List.cons_append]
  gi_wp2
  refine (wpIn_wide (n := 3)).2 (wp_scope_straight ((wpIn_wide (n := 3)).1 ?_))
  gi_wp2
  refine wpIn_label ?_
  gi_wp2_with fail
  refine ⟨trivial, (each_any Fence.wide _ trivial rfl _).mono ?_⟩
  rintro e w' ⟨rfl, rfl⟩
  gi_wp2
  have bV := Boxed.new w 28 (.int .u64 v)
  have bL := Boxed.new (w.alloc (.cells #[.int .u64 v] 28)) 93 (.slice none 0 0)
  rw [World.size_alloc] at bL
  have hB0 : Below w.heap.size w ((w.alloc (.cells #[.int .u64 v] 28)).alloc (.cells #[.slice none 0 0] 93)) := ((Below.refl _ w).alloc (Nat.le_refl _) _).alloc (by simp) _
  refine wpIn_rangeFunc_ownG (n := 3) rfl (by decide) (gf := 130) (lb := #[]) rfl trivial (enters_of Try.func130 (by kernel_rfl) rfl)
    (each_stops Fence.wide _ trivial rfl (by decide) w.heap.size _) belowK_t (belowK_b (by simp; omega)) (Below.refl _ _) (fun _ => rfl)
    (fun pre W => ((∃ s, Boxed W (w.heap.size + 1) 93 s ∧ W.ownsRow w.heap.size 3 1 s (col v pre).length (ids (col v pre)) ∧ True) ∧ Boxed W w.heap.size 28 (.int .u64 v)) ∧ Below w.heap.size w W)
    (fun c pre W => (((∃ s, Boxed W (w.heap.size + 1) 93 s ∧ W.ownsRow w.heap.size 3 1 s (col v pre.dropLast).length (ids (col v pre.dropLast)) ∧ True) ∧ Boxed W w.heap.size 28 (.int .u64 v)) ∧ Below w.heap.size w W) ∧ (c = .exit 0 ∧ ∃ q x, pre = q ++ [x] ∧ v < 2 ^ x.val))
    (OwnFrom.and (OwnFrom.and (Own.from (holdsRow_own w.heap.size (w.heap.size + 1) 93 3 1 (fun pre => (col v pre).length) (fun pre => ids (col v pre)) (fun _ _ => True)) _) (Own.from (boxed_own _ _ _) _)) (ownFrom_below (Nat.le_refl _) (by simp; omega)))
    (fun c => OwnFrom.and (OwnFrom.and (OwnFrom.and (Own.from (holdsRow_own w.heap.size (w.heap.size + 1) 93 3 1 (fun (pre : List (Fin 64)) => (col v pre.dropLast).length) (fun pre => ids (col v pre.dropLast)) (fun _ _ => True)) _) (Own.from (boxed_own _ _ _) _)) (ownFrom_below (Nat.le_refl _) (by simp; omega))) (ownFrom_pure _ _))
    ⟨⟨⟨_, bL, World.ownsRow_nil _ _ _ _, trivial⟩, bV.alloc _⟩, hB0⟩
    (fun x => { tmps := #[.int .u64 v, .pointer (some ⟨w.heap.size, 0, none⟩), .slice none 0 0, .pointer (some ⟨w.heap.size + 1, 0, none⟩), .int .i64 ((x.val : Int) + 1), .func (.func 130) #[] #[], .int .i64 ((x.val : Int) + 1), undef, undef, undef, undef, undef, undef, undef, undef, undef, undef, undef, undef, undef, undef, undef], defers := [] }) ?assign ?body ?done ?stop
  case assign =>
    intro l x W K hK
    gi_wp2
    exact hK
  case body =>
    rintro l pre x W ⟨⟨⟨s, hs, hrow, _⟩, hvb⟩, hB⟩ hlt
    have hcs := hs.cell
    have hcv := hvb.cell
    have hx64 := x.isLt
    have ht := shr_test v x.val
    have hcl := col_len v pre
    by_cases hstop : v < 2 ^ x.val
    · rw [decide_eq_true hstop] at ht
      gi_wp2
      exact ⟨KeepsFrom.refl _ _, ⟨⟨⟨s, hs, by rw [List.dropLast_concat]; exact hrow, trivial⟩, hvb⟩, hB⟩, rfl, pre, x, rfl, hstop⟩
    · rw [decide_eq_false hstop] at ht
      have hh := fun W => phas_in v x.val hv (by omega) W
      cases hb : v.testBit x.val with
      | true =>
        rw [hb] at hh
        have ec := col_hit v pre x hb
        gi_wp2_with fail
        refine ⟨trivial, (CallsIn.inRound l (callsIn_wide.2 (hh _))).mono ?_⟩
        rintro e w' ⟨rfl, rfl⟩
        gi_wp2_with (gi_at_builtin; refine wpListIn_append_own _ rfl _ _ 93 rfl w.heap.size 3 i0 (.int .i64 0) 1 8 Try.underlying93 hi hz0 hz1 hz2 rfl (by decide) _ _ _ rfl (hrow.alloc _) ⟨w'.heap.size, 0, none⟩ 1 1 [.int .i64 ((x.val : Int) + 1)] rfl rfl (cell_one_new _ _ _) (by simp [Value.oneCell']) (by unfold maxLen; omega) (by omega) (by have := hB.size; simp; omega) ?_; intro v' w1 hown' hgrow _; obtain ⟨g', cap', rfl⟩ := ownsRow_succ hown'; obtain ⟨hv1, hv2, hr2, hk2, hb2⟩ := hs.appended (by decide) hrow hB.size (by omega) hown' hgrow; have hc1 := hv1.cell; have hf1 := hv1.frozen)
        have hvb1 : Boxed w1 w.heap.size 28 (.int .u64 v) := (hvb.alloc _).kept hgrow (hvb.not_row (by decide) hrow)
        exact ⟨hk2.from _, hb2, ⟨⟨_, hv2, by rw [ec]; simpa [ids, iv] using hr2, trivial⟩, hvb1.kept (grownBy_setCell' w1 (w.heap.size + 1) _) (by simp)⟩, hB.trans hb2⟩
      | false =>
        rw [hb] at hh
        have ec := col_miss v pre x hb
        gi_wp2_with fail
        refine ⟨trivial, (CallsIn.inRound l (callsIn_wide.2 (hh _))).mono ?_⟩
        rintro e w' ⟨rfl, rfl⟩
        gi_wp2
        exact ⟨KeepsFrom.refl _ _, Below.refl _ _, ⟨⟨s, hs, by rw [ec]; exact hrow, trivial⟩, hvb⟩, hB⟩
  case done =>
    rintro D ys W hD hys ⟨⟨⟨s, hs, hrow, _⟩, hvb⟩, hB⟩ hK
    have hcs := hs.cell
    have hall := col_all v 64 ys hys
    gi_wp2
    refine ⟨by simp, .inl ⟨_, _, rfl, run_takeDeferred hK, ?_⟩⟩
    exact ⟨_, results_tmp rfl _ _ _, s, rfl, FlatAt.own (by rw [Se.list, ← hall]; exact ownsRow_putObj hrow _ hK rfl), hB.trans (belowK_b (w := w) (Nat.le_refl _) W D _ _ (by simp at hD; omega) hK rfl rfl)⟩
  case stop =>
    rintro D c pre W hD ⟨k, hk⟩ ⟨⟨⟨⟨s, hs, hrow, _⟩, hvb⟩, hB⟩, rfl, q, x, rfl, hx⟩ hK
    have hcs := hs.cell
    have hall : col v q = Se.list v := by
      cases k with
      | zero => simp at hk
      | succ k =>
        rw [List.map_append, List.range_succ] at hk
        obtain ⟨h1, h2⟩ := List.append_inj' hk rfl
        have hxk : x.val = k := by simpa using h2
        rw [col_all v k q h1, Se.list, listTo_stop v k (by rw [← hxk]; exact hx) 64 (by have := x.isLt; omega)]
    rw [List.dropLast_concat, hall] at hrow
    gi_wp2
    refine ⟨by simp, .inl ⟨_, _, rfl, run_takeDeferred hK, ?_⟩⟩
    exact ⟨_, results_tmp rfl _ _ _, s, rfl, FlatAt.own (ownsRow_putObj hrow _ hK rfl), hB.trans (belowK_b (w := w) (Nat.le_refl _) W D _ _ (by simp at hD; omega) hK rfl rfl)⟩
set_option maxHeartbeats 1000000 in
theorem pcount_any (v : Nat) (hv : v < 18446744073709551616) (w : World) :
    Calls Try.prog 103 #[.int .u64 v] w fun e w' => e = .returned (.int .i64 (Se.count v)) ∧ Below w.heap.size w w' := by
  go_enter Try.func103, Try.ntmps103
  go_wp2_with fail
  refine (plist_any v hv _).mono ?_
  rintro e w1 ⟨s, rfl, hs, hb⟩
  obtain ⟨a, cap, rfl⟩ := hs.len (n := (Se.list v).length) (ids_len _) (by omega)
  clear hs
  go_wp2
  go_ret
  exact ⟨rfl, hb⟩
end Go.Proofs.Ytbkpekpajeaacaa
namespace Go.Proofs.Ytbkpekpajeaacaa
open Go.RowKit
set_option maxRecDepth 100000
attribute [local go_sem] ByteArray.mk_append_mk
/-- The contracts of layer 5 as equations. -/
theorem cwithin {v : Nat} {n : Int} {b : Bool} (h : Se.within v n = b) (hv : v < 18446744073709551616) (w : World) :
    Calls Try.prog 102 #[.int .u64 v, .int .i64 n] w fun e w' => e = .returned (.bool b) ∧ Below w.heap.size w w' := by
  subst h; exact (pwithin_any v n hv w).mono fun e w' hh => ⟨hh.1, by rw [hh.2]; exact Below.refl _ _⟩
theorem ccount {v c : Nat} (h : Se.count v = c) (hv : v < 18446744073709551616) (w : World) :
    Calls Try.prog 103 #[.int .u64 v] w fun e w' => e = .returned (.int .i64 c) ∧ Below w.heap.size w w' := by
  subst h; exact pcount_any v hv w
set_option maxHeartbeats 1000000 in
theorem penough (n : Int) (x : Nat) (hx : x < 18446744073709551616) (n1 : -9223372036854775808 ≤ n) (n2 : n ≤ 9223372036854775807) (w : World) :
    Calls Try.prog 70 #[.int .i64 n, .int .u64 x] w fun e w' => e = .returned (.int .i64 (Cr.enough n x)) ∧ Below w.heap.size w w' := by
  obtain ⟨z, hz⟩ : ∃ z, Se.within x n = z := ⟨_, rfl⟩
  obtain ⟨c, hc⟩ : ∃ c, Se.count x = c := ⟨_, rfl⟩
  obtain ⟨q, hq⟩ : ∃ q, Se.quorum n = q := ⟨_, rfl⟩
  have he : Cr.enough n x = if z = true then (if (c : Int) < q then 2 else 0) else 4 := by rw [Cr.enough, hz, hc, hq]
  rw [he]
  have HZ := Lib.hid hz
  have HC := Lib.hid hc
  have HQ := Lib.hid hq
  clear he hz hc hq
  cases z with
  | false =>
    rw [if_neg (by simp)]
    go_enter Try.func70, Try.ntmps70
    go_wp2_with fail
    refine (cwithin HZ.out hx _).mono ?_
    rintro e w1 ⟨rfl, g1⟩
    go_wp2
    go_ret
    exact ⟨rfl, g1⟩
  | true =>
    rw [if_pos rfl]
    by_cases hlt : (c : Int) < q
    · rw [if_pos hlt]
      have t1 : decide ((c : Int) < q) = true := decide_eq_true hlt
      clear hlt
      go_enter Try.func70, Try.ntmps70
      go_wp2_with fail
      refine (cwithin HZ.out hx _).mono ?_
      rintro e w1 ⟨rfl, g1⟩
      go_wp2_with fail
      refine (ccount HC.out hx _).mono ?_
      rintro e w2 ⟨rfl, g2⟩
      have G2 := Lib.hid (grow_trans g1 g2)
      clear g1 g2
      go_wp2_with fail
      refine (pquorum_eq HQ.out n1 n2 _).mono ?_
      rintro e w3 ⟨rfl, rfl⟩
      go_wp2
      go_ret
      exact ⟨rfl, G2.out⟩
    · rw [if_neg hlt]
      have t1 : decide ((c : Int) < q) = false := decide_eq_false hlt
      clear hlt
      go_enter Try.func70, Try.ntmps70
      go_wp2_with fail
      refine (cwithin HZ.out hx _).mono ?_
      rintro e w1 ⟨rfl, g1⟩
      go_wp2_with fail
      refine (ccount HC.out hx _).mono ?_
      rintro e w2 ⟨rfl, g2⟩
      have G2 := Lib.hid (grow_trans g1 g2)
      clear g1 g2
      go_wp2_with fail
      refine (pquorum_eq HQ.out n1 n2 _).mono ?_
      rintro e w3 ⟨rfl, rfl⟩
      go_wp2
      go_ret
      exact ⟨rfl, G2.out⟩
theorem penough_eq {n : Int} {x r : Nat} (h : Cr.enough n x = r) (hx : x < 18446744073709551616) (n1 : -9223372036854775808 ≤ n) (n2 : n ≤ 9223372036854775807) (w : World) :
    Calls Try.prog 70 #[.int .i64 n, .int .u64 x] w fun e w' => e = .returned (.int .i64 r) ∧ Below w.heap.size w w' := by subst h; exact penough n x hx n1 n2 w
end Go.Proofs.Ytbkpekpajeaacaa
namespace Go.Proofs.Ytbkpekpajeaacaa
open Go.RowKit
set_option maxRecDepth 100000
/-- A proof as a value; its own cells, in a block. -/
abbrev prfV (a r : Int) (b p : Value) (x y : Int) (s : Nat) : Value := .agg #[.int .i64 a, .int .i64 r, b, p, .int .i64 x, .int .i64 y, .int .u64 s]
def PBox (W : World) (B : Nat) (a r : Int) (b p : Value) (x y : Int) (s : Nat) : Prop := W.heap[B]? = some (.cells #[.int .i64 a, .int .i64 r, b, p, .int .i64 x, .int .i64 y, .int .u64 s] 41 (0, 0))
end Go.Proofs.Ytbkpekpajeaacaa
namespace Go.Proofs.Ytbkpekpajeaacaa
open Go.RowKit
set_option maxRecDepth 100000
section
variable {W W' : World} {B n s : Nat} {a r x y : Int} {b p : Value}
theorem PBox.lt (h : PBox W B a r b p x y s) : B < W.heap.size := (Array.getElem?_eq_some_iff.1 h).1
theorem PBox.cells (h : PBox W B a r b p x y s) : W.cell? ⟨B, 0, none⟩ = some (.int .i64 a) ∧ W.cell? ⟨B, 1, none⟩ = some (.int .i64 r) ∧ W.cell? ⟨B, 2, none⟩ = some b ∧ W.cell? ⟨B, 3, none⟩ = some p ∧ W.cell? ⟨B, 4, none⟩ = some (.int .i64 x) ∧ W.cell? ⟨B, 5, none⟩ = some (.int .i64 y) ∧ W.cell? ⟨B, 6, none⟩ = some (.int .u64 s) := by
  have e : W.heap[B]? = _ := h
  refine ⟨?_, ?_, ?_, ?_, ?_, ?_, ?_⟩ <;> simp [World.cell?, e]
theorem PBox.free (h : PBox W B a r b p x y s) : W.frozen? ⟨B, 0, none⟩ = false ∧ W.frozen? ⟨B, 1, none⟩ = false ∧ W.frozen? ⟨B, 2, none⟩ = false ∧ W.frozen? ⟨B, 3, none⟩ = false ∧ W.frozen? ⟨B, 4, none⟩ = false ∧ W.frozen? ⟨B, 5, none⟩ = false ∧ W.frozen? ⟨B, 6, none⟩ = false := by
  have e : W.heap[B]? = _ := h
  refine ⟨?_, ?_, ?_, ?_, ?_, ?_, ?_⟩ <;> simp [World.frozen?, e]
theorem PBox.new (W : World) (a r : Int) (b p : Value) (x y : Int) (s : Nat) : PBox (W.alloc (.cells #[.int .i64 a, .int .i64 r, b, p, .int .i64 x, .int .i64 y, .int .u64 s] 41)) W.heap.size a r b p x y s := World.alloc_heap_new W _
theorem PBox.kept (h : PBox W B a r b p x y s) (hb : Below W.heap.size W W') : PBox W' B a r b p x y s := (hb.block B h.lt).trans h
theorem PBox.alloc (h : PBox W B a r b p x y s) (o : Obj) : PBox (W.alloc o) B a r b p x y s := h.kept ((Below.refl _ _).alloc (Nat.le_refl _) o)
end
end Go.Proofs.Ytbkpekpajeaacaa
namespace Go.Proofs.Ytbkpekpajeaacaa
open Go.RowKit
set_option maxRecDepth 100000
section
variable {W W' : World} {B n s : Nat} {a r x y : Int} {b p : Value}
end
theorem clist (v : Nat) (hv : v < 18446744073709551616) (w : World) :
    Calls Try.prog 120 #[.int .u64 v] w fun e w' => ∃ s, e = .returned s ∧ FlatAt w' s 1 (ints ((Se.list v).map fun (i : Nat) => (i : Int))) ∧ Below w.heap.size w w' :=
  (plist_any v hv w).mono fun e w' ⟨s, he, hs, hb⟩ => ⟨s, he, by rw [← ints_ids]; exact hs, hb⟩
end Go.Proofs.Ytbkpekpajeaacaa
namespace Go.Proofs.Ytbkpekpajeaacaa
open Go.RowKit Go.ChangeShapes Go.WideShapes Go.ChangeAt
set_option maxRecDepth 100000
attribute [local go_sem] ByteArray.mk_append_mk
section
variable {H : Type} {enc : TypeId × Value → H} {W : World}
theorem elem_prf (n : Nat) (cs : List Value) (x : DataW H × List MemPlace) (hl : cs.length = 7) (h : DataW.trod enc Try.prog W 0 (fun _ => true) true n 41 cs = some x) (hsz : (DataW.weights Try.prog 41 x.1).all (· ≤ reachBytes) = true) :
    ∃ (p : Cr.Prf) (bv pv : Value), cs = [.int .i64 p.1.1, .int .i64 p.1.2.1, bv, pv, .int .i64 p.1.2.2.2.2.1, .int .i64 p.1.2.2.2.2.2, .int .u64 p.2] ∧ BtsAt W bv p.1.2.2.1 ∧ TxAt W pv p.1.2.2.2.1 ∧ Vt.Mod p.1 ∧ p.2 < 18446744073709551616 := by
  obtain ⟨xs, m, _, rfl, _, hlen, hf⟩ := DataW.trod_struct Try.underlying41 h
  have k1 : Try.prog.cellsOf 27 = 6 := by kernel_rfl
  have k2 : Try.prog.cellsOf 28 = 1 := by kernel_rfl
  match cs, hl, xs, hlen with
  | [e0, e1, e2, e3, e4, e5, e6], _, [y0, y1], _ =>
    have h0 := hf 0 _ rfl
    have h1 := hf 1 _ rfl
    simp only [List.map_cons, List.map_nil, DataW.weights, Try.underlying41] at hsz
    obtain ⟨v, bv, pv, he, hb, hp, l1, l2, l3⟩ := elem_vtx (W := W) m [e0, e1, e2, e3, e4, e5] y0 rfl (by simpa [k1] using h0) (sized_at hsz (j := 0) rfl rfl)
    simp only [List.cons.injEq, and_true] at he
    obtain ⟨rfl, rfl, rfl, rfl, rfl, rfl⟩ := he
    obtain ⟨z, hz, _, wz⟩ := DataW.trod_int Try.underlying28 (show DataW.trod enc Try.prog W 0 (fun _ => true) true m 28 [e6] = some y1 by simpa [k2] using h1)
    cases hz
    have hb2 : 0 ≤ z ∧ z ≤ 18446744073709551615 := by simpa [Lit.wf, IntKind.min, IntKind.max, IntKind.signed, IntKind.bits] using wz
    obtain ⟨q, rfl⟩ := Int.eq_ofNat_of_zero_le hb2.1
    exact ⟨(v, q), _, _, rfl, hb, hp, ⟨by show v.2.2.1.length ≤ 140737488351232; omega, l2, by show v.2.2.2.1.length ≤ 140737488351232; omega⟩, by show q < 18446744073709551616; omega⟩
end
end Go.Proofs.Ytbkpekpajeaacaa
namespace Go.Proofs.Ytbkpekpajeaacaa
open Go.RowKit
set_option maxRecDepth 100000
attribute [local go_sem] ByteArray.mk_append_mk
theorem rcvmay {v : Vt.Vtx} {n : Int} {r : Bool} (h : Vt.may v n = r) (bv pv : Value) (w : World) (hb : BtsAt w bv v.2.2.1) (hp : TxAt w pv v.2.2.2.1) (mv : Vt.Mod v) (n1 : -9223372036854775808 ≤ n) (n2 : n ≤ 9223372036854775807) :
    Calls Try.prog 67 #[vtxV v.1 v.2.1 bv pv v.2.2.2.2.1 v.2.2.2.2.2, .int .i64 n] w fun e w' => e = .returned (.bool r) ∧ Below w.heap.size w w' := by subst h; exact rvmay v bv pv n w hb hp mv.b mv.p n1 n2
theorem rcwithin {v : Nat} {n : Int} {r : Bool} (h : Se.within v n = r) (hv : v < 18446744073709551616) (h1 : -9223372036854775808 ≤ n) (h2 : n ≤ 9223372036854775807) (w : World) :
    Calls Try.prog 105 #[.int .u64 v, .int .i64 n] w fun e w' => e = .returned (.bool r) ∧ Below w.heap.size w w' := by subst h; exact rwithin_any v n hv h1 h2 w
theorem rccount {v c : Nat} (h : Se.count v = c) (hv : v < 18446744073709551616) (w : World) :
    Calls Try.prog 106 #[.int .u64 v] w fun e w' => e = .returned (.int .i64 c) ∧ Below w.heap.size w w' := by subst h; exact rcount_any v hv w
set_option maxHeartbeats 4000000 in
theorem rfits (n : Int) (p : Cr.Prf) (bv pv : Value) (w : World) (hb : BtsAt w bv p.1.2.2.1) (hp : TxAt w pv p.1.2.2.2.1) (mv : Vt.Mod p.1) (hx : p.2 < 18446744073709551616) (n1 : -9223372036854775808 ≤ n) (n2 : n ≤ 9223372036854775807) :
    Calls Try.prog 72 #[prfV p.1.1 p.1.2.1 bv pv p.1.2.2.2.2.1 p.1.2.2.2.2.2 p.2, .int .i64 n] w fun e w' => e = .returned (.int .i64 (Cr.fits p n)) ∧ Below w.heap.size w w' := by
  have MV := Lib.hid mv
  obtain ⟨v, x⟩ := p
  simp only [] at hb hp hx
  obtain ⟨m, hm⟩ : ∃ m, Vt.may v n = m := ⟨_, rfl⟩
  obtain ⟨z, hz⟩ : ∃ z, Se.within x n = z := ⟨_, rfl⟩
  obtain ⟨c, hc⟩ : ∃ c, Se.count x = c := ⟨_, rfl⟩
  obtain ⟨q, hq⟩ : ∃ q, Se.quorum n = q := ⟨_, rfl⟩
  have E := Lib.hid (show Cr.fits (v, x) n = if m = true then (if z = true then (if (c : Int) < q then 2 else 0) else 4) else 1 by rw [Cr.fits, Cr.enough, hm, hz, hc, hq])
  have HM := Lib.hid hm
  have HZ := Lib.hid hz
  have HC := Lib.hid hc
  have HQ := Lib.hid hq
  have HB := Lib.hid hb
  have HP := Lib.hid hp
  obtain ⟨ab, cb, hbe⟩ := hb.len
  obtain ⟨ap, cp, hpe⟩ := hp.len
  obtain ⟨a, r, bs, ps, y, z'⟩ := v
  simp only [] at hbe hpe HB HP
  subst hbe hpe
  have P0 := Lib.hid (PBox.new w a r (.slice ab bs.length cb) (.slice ap ps.length cp) y z' x)
  have HG := Lib.hid (show Below w.heap.size w (w.alloc (.cells #[.int .i64 a, .int .i64 r, .slice ab bs.length cb, .slice ap ps.length cp, .int .i64 y, .int .i64 z', .int .u64 x] 41)) from (Below.refl _ _).alloc (Nat.le_refl _) _)
  obtain ⟨c0, c1, c2, c3, c4, c5, c6⟩ := P0.out.cells
  clear hb hp hm hz hc hq mv
  go_enter Try.func72, Try.ntmps72
  go_wp2_with fail
  refine (rcvmay (v := (a, r, bs, ps, y, z')) HM.out _ _ _ (HB.out.below HG.out) (HP.out.below HG.out) MV.out n1 n2).mono ?_
  rintro e w1 ⟨rfl, g1⟩
  have P1 := Lib.hid (P0.out.kept g1)
  have G1 := Lib.hid (HG.out.trans (g1.mono (by simp)))
  clear g1 c0 c1 c2 c3 c4 c5 c6
  cases m with
  | false =>
    go_wp2
    go_ret
    exact ⟨by rw [E.out]; rfl, G1.out⟩
  | true =>
    obtain ⟨c0, c1, c2, c3, c4, c5, c6⟩ := P1.out.cells
    go_wp2_with fail
    refine (rcwithin HZ.out hx n1 n2 _).mono ?_
    rintro e w2 ⟨rfl, g2⟩
    have P2 := Lib.hid (P1.out.kept g2)
    have G2 := Lib.hid (grow_trans G1.out g2)
    clear g2 c0 c1 c2 c3 c4 c5 c6
    cases z with
    | false =>
      go_wp2
      go_ret
      exact ⟨by rw [E.out]; rfl, G2.out⟩
    | true =>
      obtain ⟨c0, c1, c2, c3, c4, c5, c6⟩ := P2.out.cells
      go_wp2_with fail
      refine (rccount HC.out hx _).mono ?_
      rintro e w3 ⟨rfl, g3⟩
      have G3 := Lib.hid (grow_trans G2.out g3)
      clear g3 c0 c1 c2 c3 c4 c5 c6
      go_wp2_with fail
      refine (rquorum_eq HQ.out n1 n2 _).mono ?_
      rintro e w4 ⟨rfl, rfl⟩
      by_cases hlt : (c : Int) < q
      · have E2 := Lib.hid (show Cr.fits ((a, r, bs, ps, y, z'), x) n = 2 by rw [E.out]; simp [hlt])
        have t1 : decide ((c : Int) < q) = true := decide_eq_true hlt
        clear hlt
        go_wp2
        go_ret
        exact ⟨by rw [E2.out]; rfl, G3.out⟩
      · have E2 := Lib.hid (show Cr.fits ((a, r, bs, ps, y, z'), x) n = 0 by rw [E.out]; simp [hlt])
        have t1 : decide ((c : Int) < q) = false := decide_eq_false hlt
        clear hlt
        go_wp2
        go_ret
        exact ⟨by rw [E2.out]; rfl, G3.out⟩
theorem rfits_eq {n : Int} {p : Cr.Prf} {f : Nat} (h : Cr.fits p n = f) (bv pv : Value) (w : World) (hb : BtsAt w bv p.1.2.2.1) (hp : TxAt w pv p.1.2.2.2.1) (mv : Vt.Mod p.1) (hx : p.2 < 18446744073709551616) (n1 : -9223372036854775808 ≤ n) (n2 : n ≤ 9223372036854775807) :
    Calls Try.prog 72 #[prfV p.1.1 p.1.2.1 bv pv p.1.2.2.2.2.1 p.1.2.2.2.2.2 p.2, .int .i64 n] w fun e w' => e = .returned (.int .i64 f) ∧ Below w.heap.size w w' := by subst h; exact rfits n p bv pv w hb hp mv hx n1 n2
end Go.Proofs.Ytbkpekpajeaacaa
