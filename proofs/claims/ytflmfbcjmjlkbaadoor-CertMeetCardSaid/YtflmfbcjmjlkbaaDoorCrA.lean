/- CrSeatR, CrSeatP, CrSeatL, CrBook, in one. -/
import Derived.Test.YtflmfbcjmjlkbaaDoorSeatMath
import Derived.Test.YtflmfbcjmjlkbaaDoorSeatMath2
import Derived.Test.YtflmfbcjmjlkbaaDoorBase
import Derived.Test.YtflmfbcjmjlkbaaDoorVtxA
import Derived.RangeFuncNested
import Derived.RangeFuncBound
import Derived.RangeFuncCalls
import Derived.RangeFuncLeaves
import Derived.Shelf.Abstract
import Derived.Shelf.RegionOpen
import Derived.WalkKit
import Derived.OwnWalkIn
import Derived.TacticsInMore
import Derived.LoopNIn
import Derived.LoopIn
import Derived.Maps.AppendAt
import Derived.Test.YtflmfbcjmjlkbaaDoorBookMath
import Derived.Test.YtflmfbcjmjlkbaaDoorDigLess
import Derived.Deep.QuietTactic
import Derived.BigQuiet
import Derived.Laws.StructEq
import Derived.Laws.BitsAll
/- The document's seats. -/
set_option maxRecDepth 100000
namespace Go.Proofs.YtflmfbcjmjlkbaaDoor
open Go.RowKit
def ids (l : List Nat) : List Value := l.map fun (i : Nat) => iv (i : Int)
theorem info_int : (Tryd.prog.info? 3).map (fun i => (i.zero, i.size, i.bytes)) = some (some (.int .i64 0), 1, 8) := by kernel_rfl
set_option maxHeartbeats 2000000 in
theorem rlist_any (v : Nat) (hv : v < 18446744073709551616) (w : World) :
    Calls Tryd.prog 48 #[.int .u64 v] w fun e w' => ∃ s, e = .returned s ∧ FlatAt w' s 1 (ids (Se.list v)) ∧ Below w.heap.size w w' := by
  obtain ⟨i0, hi, hz0, hz1, hz2⟩ := info_parts info_int
  go_enter Tryd.func48, Tryd.ntmps48
  go_wp2_with fail
  go_loopw [0, 3, 4] (fun x s i wr => ∃ k : Nat, i = .int .i64 (k + 1 : Nat) ∧ k ≤ 64 ∧ x = .int .u64 (v / 2 ^ k : Nat) ∧ Below w.heap.size w wr ∧ wr.ownsRow w.heap.size 3 1 s (Se.listTo v k).length (ids (Se.listTo v k))) (fun _ _ i _ => 65 - (intOf i).toNat)
  case atStart => exact ⟨0, rfl, by omega, by simp, Below.refl _ _, ⟨by simp [ids, Se.listTo], .inl ⟨rfl, rfl⟩⟩⟩
  case round =>
    obtain ⟨k, rfl, hk, rfl, hbel, hown⟩ := hrel
    by_cases hlt : k < 64
    · have hx : v / 2 ^ k < 18446744073709551616 := Nat.lt_of_le_of_lt (Nat.div_le_self _ _) hv
      obtain ⟨x, hxe⟩ : ∃ x, v / 2 ^ k = x := ⟨_, rfl⟩
      rw [hxe] at hx
      have hnext : v / 2 ^ (k + 1) = x / 2 := by rw [Nat.pow_succ, ← Nat.div_div_eq_div_mul, hxe]
      have hll := Se.listTo_len v k
      by_cases hb : v.testBit k = true
      · have h1 : ((x : Int) % 2 == 1) = true := by
          have := (Se.half_bit v k).2 hb
          rw [hxe] at this
          rw [beq_iff_eq]; omega
        have hst : Se.listTo v (k + 1) = Se.listTo v k ++ [k + 1] := by rw [Se.listTo_step, if_pos hb]
        have HO := Lib.hid hown
        have HX := Lib.hid hxe
        have HN := Lib.hid hnext
        have HS := Lib.hid hst
        clear hown hxe hnext hst hb
        rw [HX.out]
        go_wp2_with (at_builtin; refine wpList_append_own _ rfl _ _ 76 rfl w.heap.size 3 i0 (.int .i64 0) 1 8 Tryd.underlying76 hi hz0 hz1 hz2 rfl (by decide) _ _ _ rfl (HO.out.alloc _) ⟨wr.heap.size, 0, none⟩ 1 1 [.int .i64 ((k : Int) + 1)] rfl rfl ?c1 ?c2 ?c3 ?c4 ?c5 ?_)
        case c1 => exact new_cell _ _ rfl _ _
        case c2 => intro u hu; simp at hu; subst hu; rfl
        case c3 => unfold maxLen; omega
        case c4 => omega
        case c5 => have := hbel.size; simp; omega
        intro s' w2 hown2 hgrow _
        have hsz := hbel.size
        have hown3 : w2.ownsRow w.heap.size 3 1 s' (Se.listTo v (k + 1)).length (ids (Se.listTo v (k + 1))) := by
          rw [HS.out]; simpa [ids, iv] using hown2
        have hbel2 : Below w.heap.size w w2 := (hbel.alloc hsz _).grown hgrow (by simp; omega) (fun k hk => (HO.out.lt k hk).1)
        have HO3 := Lib.hid hown3
        clear hown2 hown3 hgrow HO HS HX
        go_wp2
        go_roundw
        case rel => exact ⟨k + 1, by go_num, by omega, by rw [HN.out]; rfl, hbel2, HO3.out⟩
        case measure => simp [intOf]; omega
      · have h1 : ((x : Int) % 2 == 1) = false := by
          have : ¬ v / 2 ^ k % 2 = 1 := fun e => hb ((Se.half_bit v k).1 e)
          rw [hxe] at this
          rw [beq_eq_false_iff_ne]; omega
        have hst : Se.listTo v (k + 1) = Se.listTo v k := by rw [Se.listTo_step, if_neg hb, List.append_nil]
        rw [← hst] at hown
        have HO := Lib.hid hown
        have HX := Lib.hid hxe
        have HN := Lib.hid hnext
        clear hown hxe hnext hst hb
        rw [HX.out]
        go_wp2
        go_roundw
        case rel => exact ⟨k + 1, by go_num, by omega, by rw [HN.out]; rfl, hbel, HO.out⟩
        case measure => simp [intOf]; omega
    · obtain rfl : k = 64 := by omega
      have HO := Lib.hid hown
      clear hown
      go_wp2
      go_ret
      exact ⟨_, rfl, FlatAt.own HO.out, hbel⟩
theorem ids_len (l : List Nat) : (ids l).length = l.length * 1 := by simp [ids]
theorem ids_at (l : List Nat) (k : Nat) (h : k < l.length) : (ids l)[k]'(by simpa [ids] using h) = iv (l[k] : Nat) := by simp [ids]
/-- What a list of seats is, behind a call. -/
theorem rlist_open {w w' : World} {s : Value} {l : List Nat} (h : FlatAt w s 1 (ids l)) (hb : Below w.heap.size w w') :
    (l = [] ∧ ∃ a cap, s = .slice a 0 cap) ∨ ∃ b off cap, s = .slice (some ⟨b, off, none⟩) l.length cap ∧ ∀ k (hk : k < l.length), w'.cell? ⟨b, off + k, none⟩ = some (iv (l[k] : Nat)) := by
  by_cases h0 : l.length = 0
  · have e : l = [] := List.length_eq_zero_iff.1 h0
    obtain ⟨a, cap, rfl⟩ := h.len (n := l.length) (ids_len l) (by omega)
    subst e
    exact .inl ⟨rfl, _, _, rfl⟩
  · obtain ⟨b, off, cap, rfl, hc⟩ := h.at (n := l.length) (ids_len l) (by omega) (by omega)
    refine .inr ⟨b, off, cap, rfl, fun k hk => ?_⟩
    have := below_cell hb (hc k (by rw [ids_len]; omega))
    rw [this, ids_at l k hk]
theorem list_len64 (v : Nat) : (Se.list v).length ≤ 64 := Se.listTo_len v 64
theorem list_max (v : Nat) (k : Nat) (h : k < (Se.list v).length) : 1 ≤ (Se.list v)[k] ∧ (Se.list v)[k] ≤ 64 := by
  have := (Se.list_mem v (Se.list v)[k]).1 (List.getElem_mem h)
  exact ⟨this.1, this.2.1⟩
end Go.Proofs.YtflmfbcjmjlkbaaDoor
namespace Go.Proofs.YtflmfbcjmjlkbaaDoor
open Go.RowKit
set_option maxHeartbeats 2000000 in
theorem rcount_any (v : Nat) (hv : v < 18446744073709551616) (w : World) :
    Calls Tryd.prog 24 #[.int .u64 v] w fun e w' => e = .returned (.int .i64 (Se.count v)) ∧ Below w.heap.size w w' := by
  go_enter Tryd.func24, Tryd.ntmps24
  go_wp2_with fail
  refine (rlist_any v hv _).mono ?_
  rintro e w1 ⟨s, rfl, hs, hb⟩
  obtain ⟨a, cap, rfl⟩ := hs.len (n := (Se.list v).length) (ids_len _) (by omega)
  clear hs
  go_wp2
  go_ret
  exact ⟨rfl, hb⟩
end Go.Proofs.YtflmfbcjmjlkbaaDoor
namespace Go.Proofs.YtflmfbcjmjlkbaaDoor
open Go.RowKit
theorem ints_ids (l : List Nat) : ids l = ints (l.map fun (i : Nat) => (i : Int)) := by simp [ids, ints]
set_option maxHeartbeats 400000 in
theorem rwithin_any (v : Nat) (n : Int) (hv : v < 18446744073709551616) (h1 : -9223372036854775808 ≤ n) (h2 : n ≤ 9223372036854775807) (w : World) :
    Calls Tryd.prog 63 #[.int .u64 v, .int .i64 n] w fun e w' => e = .returned (.bool (Se.within v n)) ∧ Below w.heap.size w w' := by
  by_cases hr : 0 ≤ n ∧ n ≤ 64
  · obtain ⟨hr1, hr2⟩ := hr
    have hw : Se.within v n = (Se.list v).all fun i => decide ((i : Int) ≤ n) := by simp [Se.within, hr1, hr2]
    have hl := list_len64 v
    have hla := fun (h : (Se.list v).length - 1 < (Se.list v).length) => Se.all_last (Se.list v) h (Se.list_up v) n
    obtain ⟨l, hle⟩ : ∃ l, Se.list v = l := ⟨_, rfl⟩
    rw [hle] at hw hl hla
    have HL := Lib.hid hle
    have HW := Lib.hid hw
    have HA := Lib.hid hla
    have hd1 : ¬ n < 0 := by omega
    have hd2 : ¬ 64 < n := by omega
    clear hle hw hla
    go_enter Tryd.func63, Tryd.ntmps63
    go_wp2_with fail
    refine (rlist_any v hv _).mono ?_
    rintro e w1 ⟨s, rfl, hs, hb⟩
    rw [HL.out] at hs
    have hop := rlist_open hs (Below.refl _ _)
    have HB := Lib.hid hb
    clear hs hb
    rcases hop with ⟨rfl, a, cap, rfl⟩ | ⟨b, off, cap, rfl, hc⟩
    · go_wp2
      go_ret
      exact ⟨by rw [HW.out]; rfl, HB.out⟩
    · by_cases h0 : l.length = 0
      · have e : l = [] := List.length_eq_zero_iff.1 h0
        subst e
        go_wp2
        go_ret
        exact ⟨by rw [HW.out]; rfl, HB.out⟩
      · obtain ⟨m, hm⟩ : ∃ m, l.length = m + 1 := ⟨l.length - 1, by omega⟩
        have hcm := hc m (by omega)
        have hAm := HA.out (by omega)
        have em : l.length - 1 = m := by omega
        simp only [em] at hAm
        simp only [iv] at hcm
        obtain ⟨x, hx⟩ : ∃ x, l[m] = x := ⟨_, rfl⟩
        rw [hx] at hcm hAm
        have hmb : m ≤ 64 := by omega
        have hxm : x ≤ 64 := by
          have := (Se.list_mem v l[m]).1 (by rw [HL.out]; exact List.getElem_mem _)
          omega
        have hf : Se.within v n = decide ((x : Int) ≤ n) := by rw [HW.out, hAm]
        have HF := Lib.hid hf
        rw [hm]
        clear hc hAm hm em h0 hx hf HA HW
        have hz : ((m : Int) + 1 == 0) = false := by rw [beq_eq_false_iff_ne]; omega
        clear HL hr1 hr2 h1 h2 hl
        go_wp2
        go_ret
        exact ⟨by rw [HF.out]; rfl, HB.out⟩
  · have hw : Se.within v n = false := by simp [Se.within, hr]
    have HW := Lib.hid hw
    clear hw
    by_cases hn : n < 0
    · clear hr
      go_enter Tryd.func63, Tryd.ntmps63
      go_wp2
      go_ret
      exact ⟨by rw [HW.out]; rfl, Below.refl _ _⟩
    · have hn2 : 64 < n := by omega
      clear hr
      go_enter Tryd.func63, Tryd.ntmps63
      go_wp2
      go_ret
      exact ⟨by rw [HW.out]; rfl, Below.refl _ _⟩
end Go.Proofs.YtflmfbcjmjlkbaaDoor
namespace Go.Proofs.YtflmfbcjmjlkbaaDoor
open Go.RowKit
set_option maxHeartbeats 1000000 in
theorem rweak_any (n : Int) (h1 : -9223372036854775808 ≤ n) (h2 : n ≤ 9223372036854775807) (w : World) :
    Calls Tryd.prog 25 #[.int .i64 n] w fun e w' => e = .returned (.int .i64 (Se.weak n)) ∧ w = w' := by
  cases hm : Se.may n with
  | true =>
    have hr := may_range hm
    have hf : Se.weak n = (n - 1) / 3 + 1 := by rw [Se.weak, if_pos hm]
    have HM := Lib.hid hm
    have HF := Lib.hid hf
    obtain ⟨r1, r2, _⟩ := hr
    clear hm hf
    go_enter Tryd.func25, Tryd.ntmps25
    go_wp2_with fail
    refine (rmay_eq HM.out h1 h2 _).mono ?_
    rintro e w1 ⟨rfl, rfl⟩
    go_wp2
    go_ret
    exact ⟨by rw [HF.out]; rfl, rfl⟩
  | false =>
    have hf : Se.weak n = 0 := by rw [Se.weak, hm]; rfl
    have HM := Lib.hid hm
    have HF := Lib.hid hf
    clear hm hf
    go_enter Tryd.func25, Tryd.ntmps25
    go_wp2_with fail
    refine (rmay_eq HM.out h1 h2 _).mono ?_
    rintro e w1 ⟨rfl, rfl⟩
    go_wp2
    go_ret
    exact ⟨by rw [HF.out]; rfl, rfl⟩
end Go.Proofs.YtflmfbcjmjlkbaaDoor
/- Package seats as it landed: sets. -/
set_option maxRecDepth 100000
namespace Go.Proofs.YtflmfbcjmjlkbaaDoor
open Go.RowKit
theorem pis_in (id : Int) (h1 : 1 ≤ id) (h2 : id ≤ 64) (w : World) :
    Calls Tryd.prog 83 #[.int .i64 id] w fun e w' => e = .returned (.bool true) ∧ w' = w := by
  have t1 : decide (1 ≤ id) = true := by simpa using h1
  have t2 : decide (id ≤ 64) = true := by simpa using h2
  clear h1 h2
  go_enter Tryd.func83, Tryd.ntmps83
  go_wp2
  go_ret
  exact ⟨rfl, rfl⟩
theorem pis_out (id : Int) (h : id < 1 ∨ 64 < id) (w : World) :
    Calls Tryd.prog 83 #[.int .i64 id] w fun e w' => e = .returned (.bool false) ∧ w' = w := by
  by_cases h1 : 1 ≤ id
  · have t1 : decide (1 ≤ id) = true := by simpa using h1
    have t2 : decide (id ≤ 64) = false := by simp; omega
    clear h1 h
    go_enter Tryd.func83, Tryd.ntmps83
    go_wp2
    go_ret
    exact ⟨rfl, rfl⟩
  · have t1 : decide (1 ≤ id) = false := by simpa using h1
    clear h1 h
    go_enter Tryd.func83, Tryd.ntmps83
    go_wp2
    go_ret
    exact ⟨rfl, rfl⟩
theorem wrap_pow (k : Nat) (h : k ≤ 63) : IntKind.u64.wrap ((2 : Int) ^ k) = ((2 ^ k : Nat) : Int) := by
  have h2 : (2 : Nat) ^ k ≤ 2 ^ 63 := Nat.pow_le_pow_right (by omega) h
  have e : ((2 ^ k : Nat) : Int) = (2 : Int) ^ k := by simp
  rw [← e]
  generalize 2 ^ k = x at h2
  exact IntWalk.u64_in _ ⟨by omega, by omega⟩
theorem pmask_in (k : Nat) (h : k ≤ 63) (w : World) :
    Calls Tryd.prog 84 #[.int .i64 (k + 1 : Nat)] w fun e w' => e = .returned (.int .u64 (2 ^ k : Nat)) ∧ w' = w := by
  go_enter Tryd.func84, Tryd.ntmps84
  go_wp2
  go_ret
  exact ⟨by rw [wrap_pow k h]; rfl, rfl⟩
theorem and_bit (v k : Nat) : v &&& 2 ^ k = if v.testBit k then 2 ^ k else 0 := by
  apply Nat.eq_of_testBit_eq
  intro i
  rw [Nat.testBit_and, Nat.testBit_two_pow]
  by_cases e : k = i
  · subst e
    cases h : v.testBit k with
    | true => simp
    | false => simp
  · cases h : v.testBit k with
    | true => simp [e]
    | false => simp [e]
theorem bits_and_pow (v k : Nat) (hv : v < 18446744073709551616) (hk : k ≤ 63) : bits .and .u64 (v : Int) ((2 ^ k : Nat) : Int) = if v.testBit k then ((2 ^ k : Nat) : Int) else 0 := by
  have h2 : (2 : Nat) ^ k ≤ 2 ^ 63 := Nat.pow_le_pow_right (by omega) hk
  have h3 : 2 ^ k < 18446744073709551616 := by generalize 2 ^ k = x at *; omega
  rw [u64_and_nat v _ hv h3, and_bit]
  cases h : v.testBit k <;> simp
theorem phas_in (v k : Nat) (hv : v < 18446744073709551616) (hk : k ≤ 63) (w : World) :
    Calls Tryd.prog 61 #[.int .u64 v, .int .i64 (k + 1 : Nat)] w fun e w' => e = .returned (.bool (v.testBit k)) ∧ w' = w := by
  have hand := bits_and_pow v k hv hk
  have hp : (0 : Nat) < 2 ^ k := Nat.two_pow_pos k
  have hm := fun W => pmask_in k hk W
  have hi := fun W => pis_in ((k + 1 : Nat) : Int) (by omega) (by omega) W
  generalize 2 ^ k = p at *
  cases hb : v.testBit k with
  | true =>
    rw [hb, if_pos rfl] at hand
    have HA := Lib.hid hand
    have HP := Lib.hid hp
    clear hand hb hp
    go_enter Tryd.func61, Tryd.ntmps61
    go_wp2_with fail
    refine (hi _).mono ?_
    rintro e w1 ⟨rfl, rfl⟩
    go_wp2_with fail
    refine (hm _).mono ?_
    rintro e w1 ⟨rfl, rfl⟩
    go_wp2
    go_ret
    exact ⟨by rw [HA.out]; have := HP.out; simp; omega, rfl⟩
  | false =>
    rw [hb, if_neg (by decide)] at hand
    have HA := Lib.hid hand
    clear hand hb hp
    go_enter Tryd.func61, Tryd.ntmps61
    go_wp2_with fail
    refine (hi _).mono ?_
    rintro e w1 ⟨rfl, rfl⟩
    go_wp2_with fail
    refine (hm _).mono ?_
    rintro e w1 ⟨rfl, rfl⟩
    go_wp2
    go_ret
    exact ⟨by rw [HA.out]; simp, rfl⟩
theorem phas_out (v : Nat) (id : Int) (h : id < 1 ∨ 64 < id) (w : World) :
    Calls Tryd.prog 61 #[.int .u64 v, .int .i64 id] w fun e w' => e = .returned (.bool false) ∧ w' = w := by
  go_enter Tryd.func61, Tryd.ntmps61
  go_wp2_with fail
  refine (pis_out id h _).mono ?_
  rintro e w1 ⟨rfl, rfl⟩
  clear h
  go_wp2
  go_ret
  exact ⟨rfl, rfl⟩
theorem phas_any (v : Nat) (id : Int) (hv : v < 18446744073709551616) (w : World) :
    Calls Tryd.prog 61 #[.int .u64 v, .int .i64 id] w fun e w' => e = .returned (.bool (Se.has v id)) ∧ w' = w := by
  by_cases h : 1 ≤ id ∧ id ≤ 64
  · obtain ⟨k, rfl⟩ : ∃ k : Nat, id = ((k + 1 : Nat) : Int) := ⟨id.toNat - 1, by omega⟩
    have e : Se.has v ((k + 1 : Nat) : Int) = v.testBit k := by
      rw [Se.has_nat v (k + 1) (by omega) (by omega)]; rfl
    rw [e]
    exact phas_in v k hv (by omega) w
  · rw [Se.has_out v id (by omega)]
    exact phas_out v id (by omega) w
theorem pput_in (v k : Nat) (hv : v < 18446744073709551616) (hk : k ≤ 63) (w : World) :
    Calls Tryd.prog 113 #[.int .u64 v, .int .i64 (k + 1 : Nat)] w fun e w' => e = .returned (.tuple #[.int .u64 (v ||| 2 ^ k : Nat), .int .i64 0]) ∧ w' = w := by
  have h2 : (2 : Nat) ^ k ≤ 2 ^ 63 := Nat.pow_le_pow_right (by omega) hk
  have hm := fun W => pmask_in k hk W
  have hi := fun W => pis_in ((k + 1 : Nat) : Int) (by omega) (by omega) W
  have hp : 2 ^ k < 18446744073709551616 := by generalize 2 ^ k = x at *; omega
  clear h2
  generalize 2 ^ k = p at *
  have hor := u64_or_nat v p hv hp
  have HO := Lib.hid hor
  clear hor
  go_enter Tryd.func113, Tryd.ntmps113
  go_wp2_with fail
  refine (hi _).mono ?_
  rintro e w1 ⟨rfl, rfl⟩
  go_wp2_with fail
  refine (hm _).mono ?_
  rintro e w1 ⟨rfl, rfl⟩
  go_wp2
  go_ret2
  exact ⟨by rw [HO.out]; rfl, rfl⟩
theorem pput_out (v : Nat) (id : Int) (h : id < 1 ∨ 64 < id) (w : World) :
    Calls Tryd.prog 113 #[.int .u64 v, .int .i64 id] w fun e w' => e = .returned (.tuple #[.int .u64 0, .int .i64 1]) ∧ w' = w := by
  go_enter Tryd.func113, Tryd.ntmps113
  go_wp2_with fail
  refine (pis_out id h _).mono ?_
  rintro e w1 ⟨rfl, rfl⟩
  clear h
  go_wp2
  go_ret2
  exact ⟨rfl, rfl⟩
theorem pput_any (v : Nat) (id : Int) (hv : v < 18446744073709551616) (w : World) :
    Calls Tryd.prog 113 #[.int .u64 v, .int .i64 id] w fun e w' => e = .returned (.tuple #[.int .u64 (Se.putR v id).1, .int .i64 (Se.putR v id).2]) ∧ w' = w := by
  by_cases h : 1 ≤ id ∧ id ≤ 64
  · obtain ⟨k, rfl⟩ : ∃ k : Nat, id = ((k + 1 : Nat) : Int) := ⟨id.toNat - 1, by omega⟩
    have e : Se.putR v ((k + 1 : Nat) : Int) = (v ||| 2 ^ k, 0) := by rw [Se.putR, if_pos h]; rfl
    rw [e]
    exact pput_in v k hv (by omega) w
  · have e : Se.putR v id = (0, 1) := by rw [Se.putR, if_neg h]
    rw [e]
    exact pput_out v id (by omega) w
theorem within_lt (v m : Nat) (hv : v < 18446744073709551616) (hm : m ≤ 64) : Se.within v m = decide (v < 2 ^ m) := by
  rw [Bool.eq_iff_iff, Se.within_iff v m (by omega), decide_eq_true_iff]
  constructor
  · intro h
    apply Nat.lt_pow_two_of_testBit
    intro i hi
    cases hb : v.testBit i with
    | false => rfl
    | true =>
      by_cases h64 : 64 ≤ i
      · rw [Se.bits_above v i hv h64] at hb; cases hb
      · have := h (i + 1) ((Se.list_mem v (i + 1)).2 ⟨by omega, by omega, hb⟩)
        omega
  · intro h i hi
    obtain ⟨h1, h2, h3⟩ := (Se.list_mem v i).1 hi
    have := Nat.ge_two_pow_of_testBit h3
    have : ¬ m ≤ i - 1 := fun hle => by
      have := Nat.pow_le_pow_right (n := 2) (by omega) hle
      omega
    omega
theorem pwithin_in (v m : Nat) (_hv : v < 18446744073709551616) (hm : m ≤ 64) (w : World) :
    Calls Tryd.prog 57 #[.int .u64 v, .int .i64 m] w fun e w' => e = .returned (.bool (decide (v < 2 ^ m))) ∧ w' = w := by
  have hd : (((v : Int) / 2 ^ m) == 0) = decide (v < 2 ^ m) := by
    have e : (v : Int) / 2 ^ m = ((v / 2 ^ m : Nat) : Int) := by simp
    rw [e, Bool.eq_iff_iff, beq_iff_eq, decide_eq_true_iff]
    have hp := Nat.two_pow_pos m
    constructor
    · intro h
      have h0 : v / 2 ^ m = 0 := by omega
      exact (Nat.div_eq_zero_iff_lt hp).1 h0
    · intro h
      rw [(Nat.div_eq_zero_iff_lt hp).2 h]; rfl
  have HD := Lib.hid hd
  clear hd
  go_enter Tryd.func57, Tryd.ntmps57
  go_wp2
  go_ret
  exact ⟨by rw [← HD.out]; rfl, rfl⟩
theorem pwithin_any (v : Nat) (n : Int) (hv : v < 18446744073709551616) (w : World) :
    Calls Tryd.prog 57 #[.int .u64 v, .int .i64 n] w fun e w' => e = .returned (.bool (Se.within v n)) ∧ w' = w := by
  by_cases h : 0 ≤ n ∧ n ≤ 64
  · obtain ⟨m, rfl⟩ := Int.eq_ofNat_of_zero_le h.1
    have h2 : m ≤ 64 := by omega
    rw [show ((m : Nat) : Int) = (m : Int) from rfl, within_lt v m hv h2]
    exact pwithin_in v m hv h2 w
  · have e : Se.within v n = false := by simp [Se.within, h]
    rw [e]
    by_cases h0 : 0 ≤ n
    · have t1 : decide (0 ≤ n) = true := by simpa using h0
      have t2 : decide (n ≤ 64) = false := by simp; omega
      clear h h0 e
      go_enter Tryd.func57, Tryd.ntmps57
      go_wp2
      go_ret
      exact ⟨rfl, rfl⟩
    · have t1 : decide (0 ≤ n) = false := by simpa using h0
      clear h h0 e
      go_enter Tryd.func57, Tryd.ntmps57
      go_wp2
      go_ret
      exact ⟨rfl, rfl⟩
end Go.Proofs.YtflmfbcjmjlkbaaDoor
/- Package seats as it landed: the loop over all seats, and what it gathers. -/
set_option maxRecDepth 100000
namespace Go.Proofs.YtflmfbcjmjlkbaaDoor
open Go.RowKit Go.Shelf

/-- Of the seats that have come, those that are in. -/
def col (v : Nat) (pre : List (Fin 64)) : List Nat := (pre.filter fun x => v.testBit x.val).map (·.val + 1)
theorem col_hit (v : Nat) (pre : List (Fin 64)) (x : Fin 64) (h : v.testBit x.val = true) : col v (pre ++ [x]) = col v pre ++ [x.val + 1] := by simp [col, h]
theorem col_miss (v : Nat) (pre : List (Fin 64)) (x : Fin 64) (h : v.testBit x.val = false) : col v (pre ++ [x]) = col v pre := by simp [col, h]
theorem col_len (v : Nat) (pre : List (Fin 64)) : (col v pre).length ≤ pre.length := by
  rw [col, List.length_map]; exact List.length_filter_le _ _
theorem col_all (v : Nat) : ∀ (k : Nat) (pre : List (Fin 64)), pre.map (·.val) = List.range k → col v pre = Se.listTo v k := by
  intro k
  induction k with
  | zero => intro pre h; simp at h; subst h; rfl
  | succ k ih =>
    intro pre h
    rw [List.range_succ] at h
    obtain ⟨q, r, rfl, hq, hr⟩ := List.map_eq_append_iff.1 h
    obtain ⟨x, rfl, hx⟩ := List.map_eq_singleton_iff.1 hr
    have := ih q hq
    rw [Se.listTo_step, ← this, ← hx]
    cases hb : v.testBit x.val with
    | true => rw [col_hit v q x hb]; simp
    | false => rw [col_miss v q x hb]; simp

attribute [local go_sem] Oper.semAt_some

theorem each_any (F : Fence) (n : Nat) (h : F.fn 60) (hro : F.round = none) (w : World) :
    CallsIn F n Tryd.prog 60 #[] w fun e w' => e = .returned (.func (.func 89) #[] #[]) ∧ w' = w := by
  refine callsIn_of_wp Tryd.func60 rfl h ?_ hro
  simp only [Tryd.ntmps60, List.size_toArray, List.length_nil, Nat.reduceSub, Array.replicate_succ, Array.replicate_zero, List.push_toArray, List.append_toArray, List.nil_append]
  gi_wp2
  go_ret
  exact ⟨rfl, rfl⟩

set_option maxRecDepth 100000 in
set_option maxHeartbeats 1000000 in
theorem each1_in (F : Fence) (n : Nat) (h : F.fn 89) (hro : F.round = none) (hn : 1 ≤ n) (l n₀ : Nat) (J Jx : List (Fin 64) → World → Prop)
    (hY : ∀ pre x W, J pre W → pre.length < 64 → YieldAt F (n - 1) Tryd.prog l #[.int .i64 ((x.val : Int) + 1)] W fun e W' =>
      (e = .returned (.bool true) ∧ J (pre ++ [x]) W' ∧ Below n₀ W W') ∨ (e = .returned (.bool false) ∧ Jx (pre ++ [x]) W'))
    (W : World) (h0 : J [] W) :
    CallsIn F n Tryd.prog 89 #[.func (.yield l) #[] #[]] W fun e W' => (∃ v, e = .returned v) ∧
      ((∃ ys, ys.map (·.val) = List.range 64 ∧ J ys W') ∨ (∃ pre, (∃ k, pre.map (·.val) = List.range k) ∧ Jx pre W')) := by
  refine callsIn_of_wp Tryd.func89 rfl h ?_ hro
  simp only [Tryd.ntmps89, List.size_toArray, List.length_cons, List.length_nil, Nat.reduceAdd, Nat.reduceSub, Array.replicate_succ, Array.replicate_zero, List.push_toArray, List.append_toArray, List.nil_append, List.cons_append]
  gi_wp2
  gi_loopw [3] (fun i wr => ∃ (k : Nat) (pre : List (Fin 64)), i = .int .i64 k ∧ k ≤ 64 ∧ pre.map (·.val) = List.range k ∧ J pre wr) (fun i _ => 64 - (intOf i).toNat)
  case atStart => exact ⟨0, [], rfl, by omega, rfl, h0⟩
  case round =>
    obtain ⟨k, pre, rfl, hk, hpre, hJs⟩ := hrel
    by_cases hlt : k < 64
    · have hlen : pre.length = k := by have := congrArg List.length hpre; simpa using this
      have hnext : (pre ++ [(⟨k, hlt⟩ : Fin 64)]).map (·.val) = List.range (k + 1) := by simp [List.range_succ, hpre]
      obtain ⟨fn, tmps, assign, body, hy, hR⟩ := hY pre ⟨k, hlt⟩ wr hJs (by omega)
      dsimp only at hy
      gi_wp2
      refine hR.mono ?_
      rintro e W3 (⟨rfl, hJ3, hk3⟩ | ⟨rfl, hJx3⟩)
      · gi_wp2
        go_roundw
        case rel => exact ⟨k + 1, _, by go_num, by omega, hnext, hJ3⟩
        case measure => simp [intOf]; omega
      · gi_wp2
        refine bodyPost_ret (results_none rfl _ _ _) rfl ?_
        exact ⟨⟨_, rfl⟩, .inr ⟨_, ⟨k + 1, hnext⟩, hJx3⟩⟩
    · obtain rfl : k = 64 := by omega
      gi_wp2
      go_end0
      exact ⟨⟨_, rfl⟩, .inl ⟨pre, hpre, hJs⟩⟩

theorem each_stops (F : Fence) (n : Nat) (h : F.fn 89) (hro : F.round = none) (hn : 1 ≤ n) (n₀ : Nat) (w : World) :
    SeqStopsK F n Tryd.prog 89 #[] (fun x : Fin 64 => #[Value.int .i64 ((x.val : Int) + 1)]) (Below n₀) (fun ys => ys.map (·.val) = List.range 64) (fun pre => ∃ k, pre.map (·.val) = List.range k) 64 w := fun l J Jx W _ _ _ hY h0 =>
  each1_in F n h hro hn l n₀ J Jx hY W h0

theorem info_intL : (Tryd.prog.info? 3).map (fun i => (i.zero, i.size, i.bytes)) = some (some (.int .i64 0), 1, 8) := by kernel_rfl
theorem shr_test (v k : Nat) : (((v : Int) / 2 ^ k) == 0) = decide (v < 2 ^ k) := by
  have e : (v : Int) / 2 ^ k = ((v / 2 ^ k : Nat) : Int) := by simp
  rw [e, Bool.eq_iff_iff, beq_iff_eq, decide_eq_true_iff]
  have hp := Nat.two_pow_pos k
  constructor
  · intro h
    have h0 : v / 2 ^ k = 0 := by omega
    exact (Nat.div_eq_zero_iff_lt hp).1 h0
  · intro h
    rw [(Nat.div_eq_zero_iff_lt hp).2 h]; rfl
theorem listTo_stop (v k : Nat) (h : v < 2 ^ k) : ∀ m, k ≤ m → Se.listTo v m = Se.listTo v k := by
  intro m
  induction m with
  | zero => intro hk; obtain rfl : k = 0 := by omega
            rfl
  | succ m ih =>
    intro hk
    by_cases e : k = m + 1
    · rw [e]
    · have hb : v.testBit m = false := Nat.testBit_lt_two_pow (Nat.lt_of_lt_of_le h (Nat.pow_le_pow_right (by omega) (by omega)))
      rw [Se.listTo_step, hb, ih (by omega)]
      simp

set_option maxRecDepth 100000 in
set_option maxHeartbeats 4000000 in
theorem plist_any (v : Nat) (hv : v < 18446744073709551616) (w : World) :
    Calls Tryd.prog 37 #[.int .u64 v] w fun e w' => ∃ s, e = .returned s ∧ FlatAt w' s 1 (ids (Se.list v)) ∧ Below w.heap.size w w' := by
  refine (callsIn_wide (n := 3)).1 ?_
  obtain ⟨i0, hi, hz0, hz1, hz2⟩ := info_parts info_intL
  refine callsIn_of_wp_marks Tryd.func37 rfl trivial ?_ rfl
  simp only [Tryd.ntmps37, List.size_toArray, List.length_cons, List.length_nil, Nat.reduceAdd, Nat.reduceSub, Array.replicate_succ, Array.replicate_zero, List.push_toArray, List.append_toArray, List.nil_append, List.cons_append]
  gi_wp2
  refine (wpIn_wide (n := 3)).2 (wp_scope_straight ((wpIn_wide (n := 3)).1 ?_))
  gi_wp2
  refine wpIn_label ?_
  gi_wp2_with fail
  refine ⟨trivial, (each_any Fence.wide _ trivial rfl _).mono ?_⟩
  rintro e w' ⟨rfl, rfl⟩
  gi_wp2
  have bV := Boxed.new w 29 (.int .u64 v)
  have bL := Boxed.new (w.alloc (.cells #[.int .u64 v] 29)) 76 (.slice none 0 0)
  rw [World.size_alloc] at bL
  have hB0 : Below w.heap.size w ((w.alloc (.cells #[.int .u64 v] 29)).alloc (.cells #[.slice none 0 0] 76)) := ((Below.refl _ w).alloc (Nat.le_refl _) _).alloc (by simp) _
  refine wpIn_rangeFunc_ownG (n := 3) rfl (by decide) (gf := 89) (lb := #[]) rfl trivial (enters_of Tryd.func89 (by kernel_rfl) rfl)
    (each_stops Fence.wide _ trivial rfl (by decide) w.heap.size _) belowK_t (belowK_b (by simp; omega)) (Below.refl _ _) (fun _ => rfl)
    (fun pre W => ((∃ s, Boxed W (w.heap.size + 1) 76 s ∧ W.ownsRow w.heap.size 3 1 s (col v pre).length (ids (col v pre)) ∧ True) ∧ Boxed W w.heap.size 29 (.int .u64 v)) ∧ Below w.heap.size w W)
    (fun c pre W => (((∃ s, Boxed W (w.heap.size + 1) 76 s ∧ W.ownsRow w.heap.size 3 1 s (col v pre.dropLast).length (ids (col v pre.dropLast)) ∧ True) ∧ Boxed W w.heap.size 29 (.int .u64 v)) ∧ Below w.heap.size w W) ∧ (c = .exit 0 ∧ ∃ q x, pre = q ++ [x] ∧ v < 2 ^ x.val))
    (OwnFrom.and (OwnFrom.and (Own.from (holdsRow_own w.heap.size (w.heap.size + 1) 76 3 1 (fun pre => (col v pre).length) (fun pre => ids (col v pre)) (fun _ _ => True)) _) (Own.from (boxed_own _ _ _) _)) (ownFrom_below (Nat.le_refl _) (by simp; omega)))
    (fun c => OwnFrom.and (OwnFrom.and (OwnFrom.and (Own.from (holdsRow_own w.heap.size (w.heap.size + 1) 76 3 1 (fun (pre : List (Fin 64)) => (col v pre.dropLast).length) (fun pre => ids (col v pre.dropLast)) (fun _ _ => True)) _) (Own.from (boxed_own _ _ _) _)) (ownFrom_below (Nat.le_refl _) (by simp; omega))) (ownFrom_pure _ _))
    ⟨⟨⟨_, bL, World.ownsRow_nil _ _ _ _, trivial⟩, bV.alloc _⟩, hB0⟩
    (fun x => { tmps := #[.int .u64 v, .pointer (some ⟨w.heap.size, 0, none⟩), .slice none 0 0, .pointer (some ⟨w.heap.size + 1, 0, none⟩), .int .i64 ((x.val : Int) + 1), .func (.func 89) #[] #[], .int .i64 ((x.val : Int) + 1), undef, undef, undef, undef, undef, undef, undef, undef, undef, undef, undef, undef, undef, undef, undef], defers := [] }) ?assign ?body ?done ?stop
  case assign =>
    intro l x W K hK
    gi_wp2
    exact hK
  case body =>
    rintro l pre x W ⟨⟨⟨s, hs, hrow, _⟩, hvb⟩, hB⟩ hlt
    have hcs := hs.cell
    have hcv := hvb.cell
    have hx64 := x.isLt
    have ht := shr_test v x.val
    have hcl := col_len v pre
    by_cases hstop : v < 2 ^ x.val
    · rw [decide_eq_true hstop] at ht
      gi_wp2
      exact ⟨KeepsFrom.refl _ _, ⟨⟨⟨s, hs, by rw [List.dropLast_concat]; exact hrow, trivial⟩, hvb⟩, hB⟩, rfl, pre, x, rfl, hstop⟩
    · rw [decide_eq_false hstop] at ht
      have hh := fun W => phas_in v x.val hv (by omega) W
      cases hb : v.testBit x.val with
      | true =>
        rw [hb] at hh
        have ec := col_hit v pre x hb
        gi_wp2_with fail
        refine ⟨trivial, (CallsIn.inRound l (callsIn_wide.2 (hh _))).mono ?_⟩
        rintro e w' ⟨rfl, rfl⟩
        gi_wp2_with (gi_at_builtin; refine wpListIn_append_own _ rfl _ _ 76 rfl w.heap.size 3 i0 (.int .i64 0) 1 8 Tryd.underlying76 hi hz0 hz1 hz2 rfl (by decide) _ _ _ rfl (hrow.alloc _) ⟨w'.heap.size, 0, none⟩ 1 1 [.int .i64 ((x.val : Int) + 1)] rfl rfl (cell_one_new _ _ _) (by simp [Value.oneCell']) (by unfold maxLen; omega) (by omega) (by have := hB.size; simp; omega) ?_; intro v' w1 hown' hgrow _; obtain ⟨g', cap', rfl⟩ := ownsRow_succ hown'; obtain ⟨hv1, hv2, hr2, hk2, hb2⟩ := hs.appended (by decide) hrow hB.size (by omega) hown' hgrow; have hc1 := hv1.cell; have hf1 := hv1.frozen)
        have hvb1 : Boxed w1 w.heap.size 29 (.int .u64 v) := (hvb.alloc _).kept hgrow (hvb.not_row (by decide) hrow)
        exact ⟨hk2.from _, hb2, ⟨⟨_, hv2, by rw [ec]; simpa [ids, iv] using hr2, trivial⟩, hvb1.kept (grownBy_setCell' w1 (w.heap.size + 1) _) (by simp)⟩, hB.trans hb2⟩
      | false =>
        rw [hb] at hh
        have ec := col_miss v pre x hb
        gi_wp2_with fail
        refine ⟨trivial, (CallsIn.inRound l (callsIn_wide.2 (hh _))).mono ?_⟩
        rintro e w' ⟨rfl, rfl⟩
        gi_wp2
        exact ⟨KeepsFrom.refl _ _, Below.refl _ _, ⟨⟨s, hs, by rw [ec]; exact hrow, trivial⟩, hvb⟩, hB⟩
  case done =>
    rintro D ys W hD hys ⟨⟨⟨s, hs, hrow, _⟩, hvb⟩, hB⟩ hK
    have hcs := hs.cell
    have hall := col_all v 64 ys hys
    gi_wp2
    refine ⟨by simp, .inl ⟨_, _, rfl, run_takeDeferred hK, ?_⟩⟩
    exact ⟨_, results_tmp rfl _ _ _, s, rfl, FlatAt.own (by rw [Se.list, ← hall]; exact ownsRow_putObj hrow _ hK rfl), hB.trans (belowK_b (w := w) (Nat.le_refl _) W D _ _ (by simp at hD; omega) hK rfl rfl)⟩
  case stop =>
    rintro D c pre W hD ⟨k, hk⟩ ⟨⟨⟨⟨s, hs, hrow, _⟩, hvb⟩, hB⟩, rfl, q, x, rfl, hx⟩ hK
    have hcs := hs.cell
    have hall : col v q = Se.list v := by
      cases k with
      | zero => simp at hk
      | succ k =>
        rw [List.map_append, List.range_succ] at hk
        obtain ⟨h1, h2⟩ := List.append_inj' hk rfl
        have hxk : x.val = k := by simpa using h2
        rw [col_all v k q h1, Se.list, listTo_stop v k (by rw [← hxk]; exact hx) 64 (by have := x.isLt; omega)]
    rw [List.dropLast_concat, hall] at hrow
    gi_wp2
    refine ⟨by simp, .inl ⟨_, _, rfl, run_takeDeferred hK, ?_⟩⟩
    exact ⟨_, results_tmp rfl _ _ _, s, rfl, FlatAt.own (ownsRow_putObj hrow _ hK rfl), hB.trans (belowK_b (w := w) (Nat.le_refl _) W D _ _ (by simp at hD; omega) hK rfl rfl)⟩

set_option maxHeartbeats 1000000 in
theorem pcount_any (v : Nat) (hv : v < 18446744073709551616) (w : World) :
    Calls Tryd.prog 58 #[.int .u64 v] w fun e w' => e = .returned (.int .i64 (Se.count v)) ∧ Below w.heap.size w w' := by
  go_enter Tryd.func58, Tryd.ntmps58
  go_wp2_with fail
  refine (plist_any v hv _).mono ?_
  rintro e w1 ⟨s, rfl, hs, hb⟩
  obtain ⟨a, cap, rfl⟩ := hs.len (n := (Se.list v).length) (ids_len _) (by omega)
  clear hs
  go_wp2
  go_ret
  exact ⟨rfl, hb⟩

set_option maxHeartbeats 2000000 in
theorem pof_any (s : Value) (l : List Int) (w : World) (hs : FlatAt w s 1 (ints l)) (hl : l.length ≤ 9223372036854775807) :
    Calls Tryd.prog 53 #[s] w fun e w' => e = .returned (.tuple #[.int .u64 (Se.of l).1, .int .i64 (Se.of l).2]) ∧ w' = w := by
  rcases flat_ints hs (Below.refl _ _) with ⟨rfl, a, cap, rfl⟩ | ⟨h0, b, off, cap, rfl, hc⟩
  · go_enter Tryd.func53, Tryd.ntmps53
    go_wp2_with fail
    refine wp_loop_rounds 1 ?_
    rw [rounds_succ]
    go_wp2
    go_ret2
    exact ⟨rfl, rfl⟩
  · have HC := Lib.hid hc
    clear hc hs h0
    go_enter Tryd.func53, Tryd.ntmps53
    go_wp2_with fail
    go_loop [4, 9] (fun o i => ∃ (k v : Nat), i = .int .i64 k ∧ o = .int .u64 v ∧ k ≤ l.length ∧ v < 18446744073709551616 ∧ Se.ofL (l.drop k) v = Se.ofL l 0) (fun _ i => l.length - (intOf i).toNat)
    case atStart => exact ⟨0, 0, rfl, rfl, by omega, by omega, rfl⟩
    case round =>
      obtain ⟨k, v, rfl, rfl, hk, hv, hof⟩ := hrel
      by_cases hlt : k < l.length
      · rw [List.drop_eq_getElem_cons hlt] at hof
        have hcell := HC.out k hlt
        obtain ⟨x, hx⟩ : ∃ x, l[k] = x := ⟨_, rfl⟩
        rw [hx] at hof hcell
        simp only [iv] at hcell
        by_cases hr : 1 ≤ x ∧ x ≤ 64
        · obtain ⟨i, rfl⟩ : ∃ i : Nat, x = ((i + 1 : Nat) : Int) := ⟨x.toNat - 1, by omega⟩
          rw [Se.ofL_put _ _ v hr] at hof
          have hlt2 := Se.put_lt v (i + 1) hv (by omega) (by omega)
          have hput : Se.put v (i + 1) = v ||| 2 ^ i := rfl
          have hto : ((i + 1 : Nat) : Int).toNat = i + 1 := by omega
          rw [hto, hput] at hof
          rw [hput] at hlt2
          have hm := fun W => pmask_in i (by omega) W
          have hi := fun W => pis_in ((i + 1 : Nat) : Int) hr.1 hr.2 W
          have hp : 2 ^ i < 18446744073709551616 := Nat.lt_of_le_of_lt (Nat.pow_le_pow_right (by omega) (show i ≤ 63 by omega)) (by decide)
          clear hput hto hx
          generalize 2 ^ i = p at *
          have hor := u64_or_nat v p hv hp
          have HO := Lib.hid hor
          have HF := Lib.hid hof
          clear hor hof hr
          go_wp2_with fail
          refine (hi _).mono ?_
          rintro e w1 ⟨rfl, rfl⟩
          go_wp2_with fail
          refine (hm _).mono ?_
          rintro e w1 ⟨rfl, rfl⟩
          go_wp2
          go_round
          case rel => exact ⟨k + 1, _, by go_num, by rw [HO.out], hlt, hlt2, HF.out⟩
          case measure => simp [intOf]; omega
        · rw [Se.ofL_bad x _ v hr] at hof
          have hfin : Se.of l = (0, 1) := by rw [Se.of, ← hof]
          have hi := fun W => pis_out x (by omega) W
          have HF := Lib.hid hfin
          clear hof hr hx hfin
          go_wp2_with fail
          refine (hi _).mono ?_
          rintro e w1 ⟨rfl, rfl⟩
          go_wp2_with fail
          go_ret2
          exact ⟨by rw [HF.out]; rfl, rfl⟩
      · obtain rfl : k = l.length := by omega
        rw [List.drop_length, Se.ofL] at hof
        have hfin : Se.of l = (v, 0) := by rw [Se.of, ← hof]
        have HF := Lib.hid hfin
        clear hof hfin
        go_wp2
        go_ret2
        exact ⟨by rw [HF.out]; rfl, rfl⟩
end Go.Proofs.YtflmfbcjmjlkbaaDoor
/- Books, as the document and the program have them: Has, All. -/
set_option maxRecDepth 100000
namespace Go.Proofs.YtflmfbcjmjlkbaaDoor
open Go.RowKit
/-- Seals, as the cells of a slice. -/
def seals (l : List Bk.Sl) : List Value := l.flatMap fun s => [iv s.1, tx s.2]
theorem seals_len (l : List Bk.Sl) : (seals l).length = l.length * 2 := by
  induction l with
  | nil => rfl
  | cons s l ih =>
    have : seals (s :: l) = iv s.1 :: tx s.2 :: seals l := rfl
    rw [this, List.length_cons, List.length_cons, ih, List.length_cons]; omega
theorem seals_at (l : List Bk.Sl) (k : Nat) (h : k < l.length) : (seals l)[k * 2]? = some (iv l[k].1) ∧ (seals l)[k * 2 + 1]? = some (tx l[k].2) := by
  induction l generalizing k with
  | nil => simp at h
  | cons s l ih =>
    have e : seals (s :: l) = iv s.1 :: tx s.2 :: seals l := rfl
    cases k with
    | zero => simp [e]
    | succ k =>
      have := ih k (by simpa using h)
      rw [e, show (k + 1) * 2 = k * 2 + 2 by omega, show k * 2 + 2 + 1 = (k * 2 + 1) + 2 by omega]
      simpa using this
/-- A book, opened. -/
theorem flat_seals {w w' : World} {s : Value} {l : List Bk.Sl} (h : FlatAt w s 2 (seals l)) (hb : Below w.heap.size w w') :
    (l = [] ∧ ∃ a cap, s = .slice a 0 cap) ∨ (0 < l.length ∧ ∃ b off cap, s = .slice (some ⟨b, off, none⟩) l.length cap ∧ ∀ k (hk : k < l.length), w'.cell? ⟨b, off + k * 2, none⟩ = some (iv l[k].1) ∧ w'.cell? ⟨b, off + k * 2 + 1, none⟩ = some (tx l[k].2)) := by
  by_cases h0 : l.length = 0
  · have e : l = [] := List.length_eq_zero_iff.1 h0
    obtain ⟨a, cap, rfl⟩ := h.len (n := l.length) (seals_len l) (by omega)
    subst e
    exact .inl ⟨rfl, _, _, rfl⟩
  · obtain ⟨b, off, cap, rfl, hc⟩ := h.at (n := l.length) (seals_len l) (by omega) (by omega)
    refine .inr ⟨by omega, b, off, cap, rfl, fun k hk => ?_⟩
    obtain ⟨h1, h2⟩ := seals_at l k hk
    have l1 : k * 2 < (seals l).length := by rw [seals_len]; omega
    have l2 : k * 2 + 1 < (seals l).length := by rw [seals_len]; omega
    rw [List.getElem?_eq_getElem l1] at h1
    rw [List.getElem?_eq_getElem l2] at h2
    injection h1 with h1
    injection h2 with h2
    exact ⟨by rw [below_cell hb (hc (k * 2) l1), h1], by rw [Nat.add_assoc, below_cell hb (hc (k * 2 + 1) l2), h2]⟩
end Go.Proofs.YtflmfbcjmjlkbaaDoor
namespace Go.Proofs.YtflmfbcjmjlkbaaDoor
open Go.RowKit
/-- Two seals are the same where their seats and their texts are. -/
@[go_sem] theorem eq_seal (x z : Int) (t u : List UInt8) (w : World) : (Op.equalIn 10000 60 (.agg #[.int .i64 x, tx t]) (.agg #[.int .i64 z, tx u])).run Tryd.prog w = .ok (x == z && t == u) w := by
  have hS : Tryd.prog.underlying 60 = some (.struct (Tryd.prog.fieldsOf 60)) := by kernel_rfl
  have hp : Tryd.prog.stoodInHeld 60 = false := by kernel_rfl
  have u1 := Tryd.underlying3
  have u2 := Tryd.underlying9
  rw [show (10000 : Nat) = 9999 + 1 from rfl, run_equalIn_agg w 9999 60 _ _ hS hp]
  simp only [Program.fieldsOf, Tryd.underlying60]
  go_simp
  by_cases h1 : x = z <;> by_cases h2 : t = u <;> simp [h1, h2]
@[go_sem] theorem guard_seal (op : BinOp) (o1 o2 : Operand) (xs ys : Array Value) (w : World) : (eqGuard op 60 o1 o2 (.agg xs) (.agg ys)).run Tryd.prog w = .ok () w := run_eqGuard_agg w op 60 o1 o2 xs ys (by kernel_rfl)
set_option maxHeartbeats 1000000 in
theorem rbhas_any (v : Value) (l : List Bk.Sl) (s : Bk.Sl) (w : World) (hs : FlatAt w v 2 (seals l)) (hl : l.length ≤ 140737488351232) :
    Calls Tryd.prog 34 #[v, .agg #[iv s.1, tx s.2]] w fun e w' => e = .returned (.bool (Bk.has l s)) ∧ Below w.heap.size w w' := by
  obtain ⟨x, t⟩ := s
  simp only [iv]
  have grown : Below w.heap.size w (w.alloc (Obj.cells #[Value.int IntKind.i64 x, tx t] 60)) := (Below.refl _ _).alloc (Nat.le_refl _) _
  rcases flat_seals hs grown with ⟨rfl, a, cap, rfl⟩ | ⟨h0, b, off, cap, rfl, hc⟩
  · go_enter Tryd.func34, Tryd.ntmps34
    go_wp2_with fail
    refine wp_loop_rounds 1 ?_
    rw [rounds_succ]
    go_wp2
    go_ret
    exact ⟨rfl, grown⟩
  · have HC := Lib.hid hc
    have GR := Lib.hid grown
    clear hc hs grown
    go_enter Tryd.func34, Tryd.ntmps34
    go_wp2_with fail
    go_loopw [5] (fun i wr => ∃ k : Nat, i = .int .i64 k ∧ k ≤ l.length ∧ (∀ y ∈ l.take k, y ≠ (x, t)) ∧ ∃ n, wr = (w.alloc (Obj.cells #[Value.int IntKind.i64 x, tx t] 60)).drewN n) (fun i _ => l.length - (intOf i).toNat)
    case atStart => exact ⟨0, rfl, by omega, by simp, 0, rfl⟩
    case round =>
      obtain ⟨k, rfl, hk, hn, q, rfl⟩ := hrel
      have HN := Lib.hid hn
      clear hn
      by_cases hlt : k < l.length
      · obtain ⟨c1, c2⟩ := HC.out k hlt
        obtain ⟨y, hy⟩ : ∃ y, l[k] = y := ⟨_, rfl⟩
        rw [hy] at c1 c2
        obtain ⟨z, u⟩ := y
        simp only [iv] at c1 c2
        have HY := Lib.hid hy
        clear hy
        have next : ¬ ((z, u) : Bk.Sl) = (x, t) → ∀ y ∈ l.take (k + 1), y ≠ (x, t) := by
          intro hne y hy
          rw [List.take_succ_eq_append_getElem hlt, List.mem_append, List.mem_singleton] at hy
          rcases hy with hy | rfl
          · exact HN.out y hy
          · rw [HY.out]; exact hne
        have HX := Lib.hid next
        clear next
        by_cases hz : z = x
        · by_cases hu : u = t
          · subst hz hu
            have hf : Bk.has l (z, u) = true := by rw [Bk.has, decide_eq_true_iff, ← HY.out]; exact List.getElem_mem hlt
            have HF := Lib.hid hf
            clear hf
            go_wp2
            go_quiet (fail)
            go_wp2
            go_ret
            exact ⟨by rw [HF.out]; rfl, below_drewN (below_drewN GR.out _) _⟩
          · have HM := Lib.hid (HX.out fun e => hu (congrArg Prod.snd e))
            go_wp2
            go_quiet (fail)
            go_wp2
            go_roundw
            case rel => exact ⟨k + 1, by go_num, hlt, HM.out, _, rfl⟩
            case measure => simp [intOf]; omega
        · have HM := Lib.hid (HX.out fun e => hz (congrArg Prod.fst e))
          go_wp2
          go_quiet (fail)
          go_wp2
          go_roundw
          case rel => exact ⟨k + 1, by go_num, hlt, HM.out, _, rfl⟩
          case measure => simp [intOf]; omega
      · obtain rfl : k = l.length := by omega
        have hf : Bk.has l (x, t) = false := by
          rw [Bk.has, decide_eq_false_iff_not]
          intro hm
          exact HN.out _ (by rw [List.take_length]; exact hm) rfl
        have HF := Lib.hid hf
        clear hf
        go_wp2
        go_ret
        exact ⟨by rw [HF.out]; rfl, below_drewN GR.out _⟩
theorem rbhas_eq {v : Value} {l : List Bk.Sl} {s : Bk.Sl} {r : Bool} (h : Bk.has l s = r) (w : World) (hs : FlatAt w v 2 (seals l)) (hl : l.length ≤ 140737488351232) :
    Calls Tryd.prog 34 #[v, .agg #[iv s.1, tx s.2]] w fun e w' => e = .returned (.bool r) ∧ Below w.heap.size w w' := by subst h; exact rbhas_any v l s w hs hl
end Go.Proofs.YtflmfbcjmjlkbaaDoor
namespace Go.Proofs.YtflmfbcjmjlkbaaDoor
open Go.RowKit
set_option maxHeartbeats 1000000 in
theorem rall_any (v : Value) (l : List Bk.Sl) (x : Nat) (t : List UInt8) (w : World) (hs : FlatAt w v 2 (seals l)) (hl : l.length ≤ 140737488351232) (hx : x < 18446744073709551616) :
    Calls Tryd.prog 26 #[v, .int .u64 x, tx t] w fun e w' => e = .returned (.bool (Bk.all l x t)) ∧ Below w.heap.size w w' := by
  have hl64 : (Se.list x).length ≤ 64 := list_len64 x
  go_enter Tryd.func26, Tryd.ntmps26
  go_wp2_with fail
  refine (rlist_any x hx _).mono ?_
  rintro e w1 ⟨s, rfl, hsl, h1⟩
  rcases rlist_open hsl (Below.refl _ _) with ⟨h0, a, cap, rfl⟩ | ⟨b, off, cap, rfl, hc⟩
  · have hf : Bk.all l x t = true := by rw [Bk.all, h0]; rfl
    have HF := Lib.hid hf
    clear hf h0 hsl
    go_wp2_with fail
    refine wp_loop_rounds 1 ?_
    rw [rounds_succ]
    go_wp2
    go_ret
    exact ⟨by rw [HF.out]; rfl, h1⟩
  · obtain ⟨m, hm⟩ : ∃ m, Se.list x = m := ⟨_, rfl⟩
    have hall : Bk.all l x t = m.all fun i => Bk.has l ((i : Int), t) := by rw [Bk.all, hm]
    rw [hm] at hsl hl64
    have hc' : ∀ k (hk : k < m.length), w1.cell? ⟨b, off + k, none⟩ = some (.int .i64 (m[k] : Nat)) := by
      subst hm
      exact hc
    have hm64 : ∀ i ∈ m, i ≤ 64 := by subst hm; exact fun i hi => ((Se.list_mem x i).mp hi).2.1
    have hn : (Se.list x).length = m.length := by rw [hm]
    rw [hn]
    have HC := Lib.hid hc'
    have HA := Lib.hid hall
    have HM := Lib.hid hm64
    clear hc hc' hall hm hsl hn hm64
    go_wp2_with fail
    go_loopw [8] (fun i wr => ∃ k : Nat, i = .int .i64 k ∧ k ≤ m.length ∧ (∀ y ∈ m.take k, Bk.has l ((y : Int), t) = true) ∧ Below w.heap.size w wr ∧ Below w1.heap.size w1 wr) (fun i _ => m.length - (intOf i).toNat)
    case atStart => exact ⟨0, rfl, by omega, by simp, h1, Below.refl _ _⟩
    case round =>
      obtain ⟨k, rfl, hk, hy, hbel, hb1⟩ := hrel
      have HY := Lib.hid hy
      clear hy
      by_cases hlt : k < m.length
      · have c1 := below_cell hb1 (HC.out k hlt)
        have hle := HM.out m[k] (List.getElem_mem hlt)
        have hi : m[k] ∈ m := List.getElem_mem hlt
        obtain ⟨y, ey⟩ : ∃ y, m[k] = y := ⟨_, rfl⟩
        rw [ey] at c1 hle hi
        have EY := Lib.hid ey
        have HI := Lib.hid hi
        have HS := Lib.hid (hs.below hbel)
        clear ey hi
        cases hr : Bk.has l ((y : Int), t) with
        | false =>
          have hf : Bk.all l x t = false := by
            rw [HA.out]
            exact List.all_eq_false.mpr ⟨y, HI.out, by rw [hr]; simp⟩
          have R := Lib.hid hr
          have HF := Lib.hid hf
          clear hr hf
          go_wp2_with fail
          refine (rbhas_eq (s := ((y : Int), t)) R.out _ HS.out hl).mono ?_
          rintro e w2 ⟨rfl, h2⟩
          have g2 := grow_trans hbel h2
          go_wp2_with fail
          go_ret
          exact ⟨by rw [HF.out]; rfl, g2⟩
        | true =>
          have R := Lib.hid hr
          clear hr
          go_wp2_with fail
          refine (rbhas_eq (s := ((y : Int), t)) R.out _ HS.out hl).mono ?_
          rintro e w2 ⟨rfl, h2⟩
          have g2 := grow_trans hbel h2
          have g3 := grow_trans hb1 h2
          go_wp2_with fail
          go_roundw
          case rel =>
            refine ⟨k + 1, by go_num, hlt, ?_, g2, g3⟩
            intro z hz
            rw [List.take_succ_eq_append_getElem hlt, List.mem_append, List.mem_singleton] at hz
            rcases hz with hz | rfl
            · exact HY.out z hz
            · rw [EY.out]; exact R.out
          case measure => simp [intOf]; omega
      · obtain rfl : k = m.length := by omega
        have hf : Bk.all l x t = true := by
          rw [HA.out, List.all_eq_true]
          intro y hy
          exact HY.out y (by rw [List.take_length]; exact hy)
        have HF := Lib.hid hf
        clear hf
        go_wp2
        go_ret
        exact ⟨by rw [HF.out]; rfl, hbel⟩
end Go.Proofs.YtflmfbcjmjlkbaaDoor
namespace Bk
/-- One seal more, for its text. -/
def step (t : List UInt8) (o : Nat) (s : Sl) : Nat := if s.2 = t then (if inR s then o ||| 2 ^ (s.1.toNat - 1) else o) else o
def fold (l : List Sl) (t : List UInt8) : Nat := l.foldl (step t) 0
theorem step_bit (t : List UInt8) (o : Nat) (s : Sl) (i : Nat) : (step t o s).testBit i = (o.testBit i || decide (i < 64 ∧ s = ((i : Int) + 1, t))) := by
  rw [step]
  by_cases h1 : s.2 = t
  · rw [if_pos h1]
    by_cases h2 : inR s = true
    · rw [if_pos h2, Nat.testBit_or, Nat.testBit_two_pow]
      simp only [inR, decide_eq_true_iff] at h2
      congr 1
      apply decide_eq_decide.mpr
      constructor
      · intro e
        exact ⟨by omega, Prod.ext (by show s.1 = (i : Int) + 1; omega) h1⟩
      · rintro ⟨_, e⟩
        have := congrArg Prod.fst e
        simp only at this
        omega
    · rw [if_neg h2]
      have : ¬ (i < 64 ∧ s = ((i : Int) + 1, t)) := by
        rintro ⟨hi, e⟩
        apply h2
        rw [e, inR, decide_eq_true_iff]
        simp only
        omega
      simp [this]
  · rw [if_neg h1]
    have : ¬ (i < 64 ∧ s = ((i : Int) + 1, t)) := by
      rintro ⟨_, e⟩
      exact h1 (by rw [e])
    simp [this]
theorem fold_bit (l : List Sl) (t : List UInt8) (o i : Nat) : (l.foldl (step t) o).testBit i = (o.testBit i || decide (i < 64 ∧ ((i : Int) + 1, t) ∈ l)) := by
  induction l generalizing o with
  | nil => simp
  | cons s l ih =>
    rw [List.foldl_cons, ih, step_bit]
    have e : (((i : Int) + 1, t) = s) ↔ (s = ((i : Int) + 1, t)) := ⟨Eq.symm, Eq.symm⟩
    simp only [List.mem_cons, e]
    by_cases hi : i < 64 <;> by_cases h1 : s = ((i : Int) + 1, t) <;> by_cases h2 : ((i : Int) + 1, t) ∈ l <;> simp [hi, h1, h2]
theorem fold_by (l : List Sl) (t : List UInt8) : fold l t = by' l t := by
  apply Nat.eq_of_testBit_eq
  intro i
  rw [fold, fold_bit, by', byTo_bit]
  by_cases hi : i < 64 <;> simp [hi, has]
theorem step_lt (t : List UInt8) (o : Nat) (s : Sl) (ho : o < 18446744073709551616) : step t o s < 18446744073709551616 := by
  rw [step]
  split
  · split
    · rename_i h
      simp only [inR, decide_eq_true_iff] at h
      exact Nat.or_lt_two_pow (n := 64) ho (Nat.pow_lt_pow_right (by omega) (by omega))
    · exact ho
  · exact ho
theorem fold_lt (l : List Sl) (t : List UInt8) (o : Nat) (ho : o < 18446744073709551616) : l.foldl (step t) o < 18446744073709551616 := by
  induction l generalizing o with
  | nil => exact ho
  | cons s l ih => exact ih _ (step_lt t o s ho)
theorem fold_step (l : List Sl) (t : List UInt8) (k : Nat) (h : k < l.length) : fold (l.take (k + 1)) t = step t (fold (l.take k) t) l[k] := by
  rw [fold, List.take_succ_eq_append_getElem h, List.foldl_append]; rfl
theorem all_bits (l : List Sl) (x : Nat) (t : List UInt8) : all l x t = decide (x &&& (18446744073709551615 - by' l t) = 0) := by
  have hb : by' l t < 2 ^ 64 := byTo_lt l t 64 (by omega)
  rw [Bool.eq_iff_iff, decide_eq_true_iff, all_iff]
  have e : 18446744073709551615 - by' l t = 2 ^ 64 - (by' l t + 1) := by omega
  have e2 : ∀ i, (18446744073709551615 - by' l t).testBit i = (decide (i < 64) && !(decide (i < 64) && has l ((i : Int) + 1, t))) := by
    intro i
    rw [e, Nat.testBit_two_pow_sub_succ hb, by', byTo_bit]
  constructor
  · intro h
    apply Nat.eq_of_testBit_eq
    intro i
    rw [Nat.testBit_and, e2, Nat.zero_testBit]
    by_cases hi : i < 64
    · by_cases hx : x.testBit i = true
      · simp [hi, has, h i hi hx]
      · simp [hx]
    · simp [hi]
  · intro h i hi hx
    have h2 := congrArg (fun n => n.testBit i) h
    simp only [Nat.testBit_and, e2, Nat.zero_testBit, hx, hi, has] at h2
    simpa using h2
end Bk
namespace Go.Proofs.YtflmfbcjmjlkbaaDoor
open Go.RowKit
set_option maxHeartbeats 2000000 in
theorem pby_any (v : Value) (l : List Bk.Sl) (t : List UInt8) (w : World) (hs : FlatAt w v 2 (seals l)) (hl : l.length ≤ 140737488351232) :
    Calls Tryd.prog 85 #[v, tx t] w fun e w' => e = .returned (.int .u64 (Bk.by' l t)) ∧ Below w.heap.size w w' := by
  rw [← Bk.fold_by]
  rcases flat_seals hs (Below.refl _ _) with ⟨rfl, a, cap, rfl⟩ | ⟨h0, b, off, cap, rfl, hc⟩
  · go_enter Tryd.func85, Tryd.ntmps85
    go_wp2_with fail
    refine wp_loop_rounds 1 ?_
    rw [rounds_succ]
    go_wp2
    go_ret
    exact ⟨rfl, Below.refl _ _⟩
  · have HC := Lib.hid hc
    have HST := Lib.hid (Bk.fold_step l t)
    have HLT := Lib.hid fun k => Bk.fold_lt (l.take k) t 0 (by omega)
    clear hc hs
    go_enter Tryd.func85, Tryd.ntmps85
    go_wp2_with fail
    go_loopw [5, 7, 8, 9, 12] (fun o _ _ _ i wr => ∃ k : Nat, i = .int .i64 k ∧ k ≤ l.length ∧ o = .int .u64 (Bk.fold (l.take k) t) ∧ Below w.heap.size w wr) (fun _ _ _ _ i _ => l.length - (intOf i).toNat)
    case atStart => exact ⟨0, rfl, by omega, rfl, Below.refl _ _⟩
    case round =>
      obtain ⟨k, rfl, hk, rfl, hbel⟩ := hrel
      have HB := Lib.hid hbel
      clear hbel
      by_cases hlt : k < l.length
      · obtain ⟨c1', c2'⟩ := HC.out k hlt
        have c1 := below_cell HB.out c1'
        have c2 := below_cell HB.out c2'
        have hst := HST.out k hlt
        have hFl := HLT.out k
        have n1 : wr.heap.size ≠ b := World.new_ne wr _ c1
        clear c1' c2'
        obtain ⟨y, hy⟩ : ∃ y, l[k] = y := ⟨_, rfl⟩
        rw [hy] at c1 c2 hst
        obtain ⟨z, u⟩ := y
        simp only [iv] at c1 c2
        obtain ⟨F, hF⟩ : ∃ x, Bk.fold (l.take k) t = x := ⟨_, rfl⟩
        have hFl' : F < 18446744073709551616 := by rw [← hF]; exact hFl
        obtain ⟨G, hG⟩ : ∃ x, Bk.fold (l.take (k + 1)) t = x := ⟨_, rfl⟩
        rw [hF, hG] at hst
        rw [hF]
        have HG := Lib.hid hG
        clear hy hF hG hFl
        have hb3 := HB.out.alloc HB.out.size (.cells #[.int .i64 z, tx u] 60)
        have HB3 := Lib.hid hb3
        clear hb3
        by_cases hu : u = t
        · subst hu
          by_cases hr : 1 ≤ z ∧ z ≤ 64
          · have hp := fun W => pput_any F z hFl' W
            have e : Se.putR F z = (F ||| 2 ^ (z.toNat - 1), 0) := by rw [Se.putR, if_pos hr]; rfl
            rw [e] at hp
            have e2 : G = F ||| 2 ^ (z.toNat - 1) := by rw [hst, Bk.step, if_pos rfl, if_pos (by simpa [Bk.inR] using hr)]
            have E2 := Lib.hid e2
            generalize F ||| 2 ^ (z.toNat - 1) = N at *
            clear e e2 hst hr
            go_wp2_with fail
            refine (hp _).mono ?_
            rintro e w1 ⟨rfl, rfl⟩
            go_wp2
            go_roundw
            case rel => exact ⟨k + 1, by go_num, hlt, by rw [HG.out, E2.out], HB3.out⟩
            case measure => simp [intOf]; omega
          · have hp := fun W => pput_any F z hFl' W
            have e : Se.putR F z = (0, 1) := by rw [Se.putR, if_neg hr]
            rw [e] at hp
            have e2 : G = F := by rw [hst, Bk.step, if_pos rfl, if_neg (by simpa [Bk.inR] using hr)]
            have E2 := Lib.hid e2
            clear e e2 hst hr
            go_wp2_with fail
            refine (hp _).mono ?_
            rintro e w1 ⟨rfl, rfl⟩
            go_wp2
            go_roundw
            case rel => exact ⟨k + 1, by go_num, hlt, by rw [HG.out, E2.out], HB3.out⟩
            case measure => simp [intOf]; omega
        · have e2 : G = F := by rw [hst, Bk.step, if_neg hu]
          have E2 := Lib.hid e2
          have q1 : (u == t) = false := by simpa using hu
          have q2 : (u != t) = true := by simpa using hu
          have q3 : ¬ t = u := fun e => hu e.symm
          clear e2 hst
          go_wp2_with fail
          all_goals try go_roundw
          all_goals first
            | exact ⟨⟨k + 1, by go_num, hlt, by rw [HG.out, E2.out], HB3.out⟩, by simp [intOf]; omega⟩
            | exact ⟨k + 1, by go_num, hlt, by rw [HG.out, E2.out], HB3.out⟩
            | (simp [intOf]; omega)
            | (with_reducible rfl)
      · obtain rfl : k = l.length := by omega
        rw [List.take_length]
        go_wp2
        go_ret
        exact ⟨rfl, HB.out⟩
theorem pby_eq {v : Value} {l : List Bk.Sl} {t : List UInt8} {r : Nat} (h : Bk.by' l t = r) (w : World) (hs : FlatAt w v 2 (seals l)) (hl : l.length ≤ 140737488351232) :
    Calls Tryd.prog 85 #[v, tx t] w fun e w' => e = .returned (.int .u64 r) ∧ Below w.heap.size w w' := by subst h; exact pby_any v l t w hs hl
set_option maxHeartbeats 1000000 in
theorem pall_any (v : Value) (l : List Bk.Sl) (x : Nat) (t : List UInt8) (w : World) (hs : FlatAt w v 2 (seals l)) (hl : l.length ≤ 140737488351232) (hx : x < 18446744073709551616) :
    Calls Tryd.prog 54 #[v, .int .u64 x, tx t] w fun e w' => e = .returned (.bool (Bk.all l x t)) ∧ Below w.heap.size w w' := by
  have hb : Bk.by' l t < 18446744073709551616 := Bk.byTo_lt l t 64 (by omega)
  have hby := fun W hs => pby_any v l t W hs hl
  have ha := Bk.all_bits l x t
  generalize Bk.by' l t = B at *
  have hn := u64_andNot_nat x B hx hb
  have HN := Lib.hid hn
  have HA := Lib.hid ha
  have HS := Lib.hid hs
  clear hn ha hs
  go_enter Tryd.func54, Tryd.ntmps54
  go_wp2_with fail
  refine (hby _ HS.out).mono ?_
  rintro e w1 ⟨rfl, h1⟩
  go_wp2_with fail
  go_ret
  refine ⟨?_, h1⟩
  have e : ∀ N : Nat, ((N : Int) == 0) = decide (N = 0) := fun N => by rw [Bool.eq_iff_iff, beq_iff_eq, decide_eq_true_iff]; omega
  rw [HA.out, HN.out]
  simp [e]
theorem pall_eq {v : Value} {l : List Bk.Sl} {x : Nat} {t : List UInt8} {r : Bool} (h : Bk.all l x t = r) (w : World) (hs : FlatAt w v 2 (seals l)) (hl : l.length ≤ 140737488351232) (hx : x < 18446744073709551616) :
    Calls Tryd.prog 54 #[v, .int .u64 x, tx t] w fun e w' => e = .returned (.bool r) ∧ Below w.heap.size w w' := by subst h; exact pall_any v l x t w hs hl hx
end Go.Proofs.YtflmfbcjmjlkbaaDoor
namespace Go.Proofs.YtflmfbcjmjlkbaaDoor
open Go.RowKit
theorem rall_eq {v : Value} {l : List Bk.Sl} {x : Nat} {t : List UInt8} {r : Bool} (h : Bk.all l x t = r) (w : World) (hs : FlatAt w v 2 (seals l)) (hl : l.length ≤ 140737488351232) (hx : x < 18446744073709551616) :
    Calls Tryd.prog 26 #[v, .int .u64 x, tx t] w fun e w' => e = .returned (.bool r) ∧ Below w.heap.size w w' := by subst h; exact rall_any v l x t w hs hl hx
end Go.Proofs.YtflmfbcjmjlkbaaDoor
