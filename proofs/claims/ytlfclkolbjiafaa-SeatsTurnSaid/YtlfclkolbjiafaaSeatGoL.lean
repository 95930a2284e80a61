/- Package seats as it landed: the loop over all seats, and what it gathers. -/
import Derived.RangeFuncNested
import Derived.RangeFuncBound
import Derived.RangeFuncCalls
import Derived.RangeFuncLeaves
import Derived.Shelf.Abstract
import Derived.Shelf.RegionOpen
import Derived.WalkKit
import Derived.OwnWalkIn
import Derived.TacticsInMore
import Derived.LoopNIn
import Derived.LoopIn
import Derived.Maps.AppendAt
import Derived.Test.YtlfclkolbjiafaaSeatGoA
namespace Go.Proofs.Ytlfclkolbjiafaa
open Go.RowKit Go.Shelf

/-- Of the seats that have come, those that are in. -/
def col (v : Nat) (pre : List (Fin 64)) : List Nat := (pre.filter fun x => v.testBit x.val).map (·.val + 1)
theorem col_hit (v : Nat) (pre : List (Fin 64)) (x : Fin 64) (h : v.testBit x.val = true) : col v (pre ++ [x]) = col v pre ++ [x.val + 1] := by simp [col, h]
theorem col_miss (v : Nat) (pre : List (Fin 64)) (x : Fin 64) (h : v.testBit x.val = false) : col v (pre ++ [x]) = col v pre := by simp [col, h]
theorem col_len (v : Nat) (pre : List (Fin 64)) : (col v pre).length ≤ pre.length := by
  rw [col, List.length_map]; exact List.length_filter_le _ _
theorem col_all (v : Nat) : ∀ (k : Nat) (pre : List (Fin 64)), pre.map (·.val) = List.range k → col v pre = Se.listTo v k := by
  intro k
  induction k with
  | zero => intro pre h; simp at h; subst h; rfl
  | succ k ih =>
    intro pre h
    rw [List.range_succ] at h
    obtain ⟨q, r, rfl, hq, hr⟩ := List.map_eq_append_iff.1 h
    obtain ⟨x, rfl, hx⟩ := List.map_eq_singleton_iff.1 hr
    have := ih q hq
    rw [Se.listTo_step, ← this, ← hx]
    cases hb : v.testBit x.val with
    | true => rw [col_hit v q x hb]; simp
    | false => rw [col_miss v q x hb]; simp

attribute [local go_sem] Oper.semAt_some

theorem each_any (F : Fence) (n : Nat) (h : F.fn 35) (hro : F.round = none) (w : World) :
    CallsIn F n Try.prog 35 #[] w fun e w' => e = .returned (.func (.func 36) #[] #[]) ∧ w' = w := by
  refine callsIn_of_wp Try.func35 rfl h ?_ hro
  simp only [Try.ntmps35, List.size_toArray, List.length_nil, Nat.reduceSub, Array.replicate_succ, Array.replicate_zero, List.push_toArray, List.append_toArray, List.nil_append]
  gi_wp2
  go_ret
  exact ⟨rfl, rfl⟩

set_option maxRecDepth 100000 in
set_option maxHeartbeats 1000000 in
theorem each1_in (F : Fence) (n : Nat) (h : F.fn 36) (hro : F.round = none) (hn : 1 ≤ n) (l n₀ : Nat) (J Jx : List (Fin 64) → World → Prop)
    (hY : ∀ pre x W, J pre W → pre.length < 64 → YieldAt F (n - 1) Try.prog l #[.int .i64 ((x.val : Int) + 1)] W fun e W' =>
      (e = .returned (.bool true) ∧ J (pre ++ [x]) W' ∧ Below n₀ W W') ∨ (e = .returned (.bool false) ∧ Jx (pre ++ [x]) W'))
    (W : World) (h0 : J [] W) :
    CallsIn F n Try.prog 36 #[.func (.yield l) #[] #[]] W fun e W' => (∃ v, e = .returned v) ∧
      ((∃ ys, ys.map (·.val) = List.range 64 ∧ J ys W') ∨ (∃ pre, (∃ k, pre.map (·.val) = List.range k) ∧ Jx pre W')) := by
  refine callsIn_of_wp Try.func36 rfl h ?_ hro
  simp only [Try.ntmps36, List.size_toArray, List.length_cons, List.length_nil, Nat.reduceAdd, Nat.reduceSub, Array.replicate_succ, Array.replicate_zero, List.push_toArray, List.append_toArray, List.nil_append, List.cons_append]
  gi_wp2
  gi_loopw [3] (fun i wr => ∃ (k : Nat) (pre : List (Fin 64)), i = .int .i64 k ∧ k ≤ 64 ∧ pre.map (·.val) = List.range k ∧ J pre wr) (fun i _ => 64 - (intOf i).toNat)
  case atStart => exact ⟨0, [], rfl, by omega, rfl, h0⟩
  case round =>
    obtain ⟨k, pre, rfl, hk, hpre, hJs⟩ := hrel
    by_cases hlt : k < 64
    · have hlen : pre.length = k := by have := congrArg List.length hpre; simpa using this
      have hnext : (pre ++ [(⟨k, hlt⟩ : Fin 64)]).map (·.val) = List.range (k + 1) := by simp [List.range_succ, hpre]
      obtain ⟨fn, tmps, assign, body, hy, hR⟩ := hY pre ⟨k, hlt⟩ wr hJs (by omega)
      dsimp only at hy
      gi_wp2
      refine hR.mono ?_
      rintro e W3 (⟨rfl, hJ3, hk3⟩ | ⟨rfl, hJx3⟩)
      · gi_wp2
        go_roundw
        case rel => exact ⟨k + 1, _, by go_num, by omega, hnext, hJ3⟩
        case measure => simp [intOf]; omega
      · gi_wp2
        refine bodyPost_ret (results_none rfl _ _ _) rfl ?_
        exact ⟨⟨_, rfl⟩, .inr ⟨_, ⟨k + 1, hnext⟩, hJx3⟩⟩
    · obtain rfl : k = 64 := by omega
      gi_wp2
      go_end0
      exact ⟨⟨_, rfl⟩, .inl ⟨pre, hpre, hJs⟩⟩

theorem each_stops (F : Fence) (n : Nat) (h : F.fn 36) (hro : F.round = none) (hn : 1 ≤ n) (n₀ : Nat) (w : World) :
    SeqStopsK F n Try.prog 36 #[] (fun x : Fin 64 => #[Value.int .i64 ((x.val : Int) + 1)]) (Below n₀) (fun ys => ys.map (·.val) = List.range 64) (fun pre => ∃ k, pre.map (·.val) = List.range k) 64 w := fun l J Jx W _ _ _ hY h0 =>
  each1_in F n h hro hn l n₀ J Jx hY W h0

theorem info_intL : (Try.prog.info? 3).map (fun i => (i.zero, i.size, i.bytes)) = some (some (.int .i64 0), 1, 8) := by kernel_rfl
theorem shr_test (v k : Nat) : (((v : Int) / 2 ^ k) == 0) = decide (v < 2 ^ k) := by
  have e : (v : Int) / 2 ^ k = ((v / 2 ^ k : Nat) : Int) := by simp
  rw [e, Bool.eq_iff_iff, beq_iff_eq, decide_eq_true_iff]
  have hp := Nat.two_pow_pos k
  constructor
  · intro h
    have h0 : v / 2 ^ k = 0 := by omega
    exact (Nat.div_eq_zero_iff_lt hp).1 h0
  · intro h
    rw [(Nat.div_eq_zero_iff_lt hp).2 h]; rfl
theorem listTo_stop (v k : Nat) (h : v < 2 ^ k) : ∀ m, k ≤ m → Se.listTo v m = Se.listTo v k := by
  intro m
  induction m with
  | zero => intro hk; obtain rfl : k = 0 := by omega
            rfl
  | succ m ih =>
    intro hk
    by_cases e : k = m + 1
    · rw [e]
    · have hb : v.testBit m = false := Nat.testBit_lt_two_pow (Nat.lt_of_lt_of_le h (Nat.pow_le_pow_right (by omega) (by omega)))
      rw [Se.listTo_step, hb, ih (by omega)]
      simp

set_option maxRecDepth 100000 in
set_option maxHeartbeats 4000000 in
theorem plist_any (v : Nat) (hv : v < 18446744073709551616) (w : World) :
    Calls Try.prog 25 #[.int .u64 v] w fun e w' => ∃ s, e = .returned s ∧ FlatAt w' s 1 (ids (Se.list v)) ∧ Below w.heap.size w w' := by
  refine (callsIn_wide (n := 3)).1 ?_
  obtain ⟨i0, hi, hz0, hz1, hz2⟩ := info_parts info_intL
  refine callsIn_of_wp_marks Try.func25 rfl trivial ?_ rfl
  simp only [Try.ntmps25, List.size_toArray, List.length_cons, List.length_nil, Nat.reduceAdd, Nat.reduceSub, Array.replicate_succ, Array.replicate_zero, List.push_toArray, List.append_toArray, List.nil_append, List.cons_append]
  gi_wp2
  refine (wpIn_wide (n := 3)).2 (wp_scope_straight ((wpIn_wide (n := 3)).1 ?_))
  gi_wp2
  refine wpIn_label ?_
  gi_wp2_with fail
  refine ⟨trivial, (each_any Fence.wide _ trivial rfl _).mono ?_⟩
  rintro e w' ⟨rfl, rfl⟩
  gi_wp2
  have bV := Boxed.new w 25 (.int .u64 v)
  have bL := Boxed.new (w.alloc (.cells #[.int .u64 v] 25)) 26 (.slice none 0 0)
  rw [World.size_alloc] at bL
  have hB0 : Below w.heap.size w ((w.alloc (.cells #[.int .u64 v] 25)).alloc (.cells #[.slice none 0 0] 26)) := ((Below.refl _ w).alloc (Nat.le_refl _) _).alloc (by simp) _
  refine wpIn_rangeFunc_ownG (n := 3) rfl (by decide) (gf := 36) (lb := #[]) rfl trivial (enters_of Try.func36 (by kernel_rfl) rfl)
    (each_stops Fence.wide _ trivial rfl (by decide) w.heap.size _) belowK_t (belowK_b (by simp; omega)) (Below.refl _ _) (fun _ => rfl)
    (fun pre W => ((∃ s, Boxed W (w.heap.size + 1) 26 s ∧ W.ownsRow w.heap.size 3 1 s (col v pre).length (ids (col v pre)) ∧ True) ∧ Boxed W w.heap.size 25 (.int .u64 v)) ∧ Below w.heap.size w W)
    (fun c pre W => (((∃ s, Boxed W (w.heap.size + 1) 26 s ∧ W.ownsRow w.heap.size 3 1 s (col v pre.dropLast).length (ids (col v pre.dropLast)) ∧ True) ∧ Boxed W w.heap.size 25 (.int .u64 v)) ∧ Below w.heap.size w W) ∧ (c = .exit 0 ∧ ∃ q x, pre = q ++ [x] ∧ v < 2 ^ x.val))
    (OwnFrom.and (OwnFrom.and (Own.from (holdsRow_own w.heap.size (w.heap.size + 1) 26 3 1 (fun pre => (col v pre).length) (fun pre => ids (col v pre)) (fun _ _ => True)) _) (Own.from (boxed_own _ _ _) _)) (ownFrom_below (Nat.le_refl _) (by simp; omega)))
    (fun c => OwnFrom.and (OwnFrom.and (OwnFrom.and (Own.from (holdsRow_own w.heap.size (w.heap.size + 1) 26 3 1 (fun (pre : List (Fin 64)) => (col v pre.dropLast).length) (fun pre => ids (col v pre.dropLast)) (fun _ _ => True)) _) (Own.from (boxed_own _ _ _) _)) (ownFrom_below (Nat.le_refl _) (by simp; omega))) (ownFrom_pure _ _))
    ⟨⟨⟨_, bL, World.ownsRow_nil _ _ _ _, trivial⟩, bV.alloc _⟩, hB0⟩
    (fun x => { tmps := #[.int .u64 v, .pointer (some ⟨w.heap.size, 0, none⟩), .slice none 0 0, .pointer (some ⟨w.heap.size + 1, 0, none⟩), .int .i64 ((x.val : Int) + 1), .func (.func 36) #[] #[], .int .i64 ((x.val : Int) + 1), undef, undef, undef, undef, undef, undef, undef, undef, undef, undef, undef, undef, undef, undef, undef], defers := [] }) ?assign ?body ?done ?stop
  case assign =>
    intro l x W K hK
    gi_wp2
    exact hK
  case body =>
    rintro l pre x W ⟨⟨⟨s, hs, hrow, _⟩, hvb⟩, hB⟩ hlt
    have hcs := hs.cell
    have hcv := hvb.cell
    have hx64 := x.isLt
    have ht := shr_test v x.val
    have hcl := col_len v pre
    by_cases hstop : v < 2 ^ x.val
    · rw [decide_eq_true hstop] at ht
      gi_wp2
      exact ⟨KeepsFrom.refl _ _, ⟨⟨⟨s, hs, by rw [List.dropLast_concat]; exact hrow, trivial⟩, hvb⟩, hB⟩, rfl, pre, x, rfl, hstop⟩
    · rw [decide_eq_false hstop] at ht
      have hh := fun W => phas_in v x.val hv (by omega) W
      cases hb : v.testBit x.val with
      | true =>
        rw [hb] at hh
        have ec := col_hit v pre x hb
        gi_wp2_with fail
        refine ⟨trivial, (CallsIn.inRound l (callsIn_wide.2 (hh _))).mono ?_⟩
        rintro e w' ⟨rfl, rfl⟩
        gi_wp2_with (gi_at_builtin; refine wpListIn_append_own _ rfl _ _ 26 rfl w.heap.size 3 i0 (.int .i64 0) 1 8 Try.underlying26 hi hz0 hz1 hz2 rfl (by decide) _ _ _ rfl (hrow.alloc _) ⟨w'.heap.size, 0, none⟩ 1 1 [.int .i64 ((x.val : Int) + 1)] rfl rfl (cell_one_new _ _ _) (by simp [Value.oneCell']) (by unfold maxLen; omega) (by omega) (by have := hB.size; simp; omega) ?_; intro v' w1 hown' hgrow _; obtain ⟨g', cap', rfl⟩ := ownsRow_succ hown'; obtain ⟨hv1, hv2, hr2, hk2, hb2⟩ := hs.appended (by decide) hrow hB.size (by omega) hown' hgrow; have hc1 := hv1.cell; have hf1 := hv1.frozen)
        have hvb1 : Boxed w1 w.heap.size 25 (.int .u64 v) := (hvb.alloc _).kept hgrow (hvb.not_row (by decide) hrow)
        exact ⟨hk2.from _, hb2, ⟨⟨_, hv2, by rw [ec]; simpa [ids, iv] using hr2, trivial⟩, hvb1.kept (grownBy_setCell' w1 (w.heap.size + 1) _) (by simp)⟩, hB.trans hb2⟩
      | false =>
        rw [hb] at hh
        have ec := col_miss v pre x hb
        gi_wp2_with fail
        refine ⟨trivial, (CallsIn.inRound l (callsIn_wide.2 (hh _))).mono ?_⟩
        rintro e w' ⟨rfl, rfl⟩
        gi_wp2
        exact ⟨KeepsFrom.refl _ _, Below.refl _ _, ⟨⟨s, hs, by rw [ec]; exact hrow, trivial⟩, hvb⟩, hB⟩
  case done =>
    rintro D ys W hD hys ⟨⟨⟨s, hs, hrow, _⟩, hvb⟩, hB⟩ hK
    have hcs := hs.cell
    have hall := col_all v 64 ys hys
    gi_wp2
    refine ⟨by simp, .inl ⟨_, _, rfl, run_takeDeferred hK, ?_⟩⟩
    exact ⟨_, results_tmp rfl _ _ _, s, rfl, FlatAt.own (by rw [Se.list, ← hall]; exact ownsRow_putObj hrow _ hK rfl), hB.trans (belowK_b (w := w) (Nat.le_refl _) W D _ _ (by simp at hD; omega) hK rfl rfl)⟩
  case stop =>
    rintro D c pre W hD ⟨k, hk⟩ ⟨⟨⟨⟨s, hs, hrow, _⟩, hvb⟩, hB⟩, rfl, q, x, rfl, hx⟩ hK
    have hcs := hs.cell
    have hall : col v q = Se.list v := by
      cases k with
      | zero => simp at hk
      | succ k =>
        rw [List.map_append, List.range_succ] at hk
        obtain ⟨h1, h2⟩ := List.append_inj' hk rfl
        have hxk : x.val = k := by simpa using h2
        rw [col_all v k q h1, Se.list, listTo_stop v k (by rw [← hxk]; exact hx) 64 (by have := x.isLt; omega)]
    rw [List.dropLast_concat, hall] at hrow
    gi_wp2
    refine ⟨by simp, .inl ⟨_, _, rfl, run_takeDeferred hK, ?_⟩⟩
    exact ⟨_, results_tmp rfl _ _ _, s, rfl, FlatAt.own (ownsRow_putObj hrow _ hK rfl), hB.trans (belowK_b (w := w) (Nat.le_refl _) W D _ _ (by simp at hD; omega) hK rfl rfl)⟩

set_option maxHeartbeats 1000000 in
theorem pcount_any (v : Nat) (hv : v < 18446744073709551616) (w : World) :
    Calls Try.prog 29 #[.int .u64 v] w fun e w' => e = .returned (.int .i64 (Se.count v)) ∧ Below w.heap.size w w' := by
  go_enter Try.func29, Try.ntmps29
  go_wp2_with fail
  refine (plist_any v hv _).mono ?_
  rintro e w1 ⟨s, rfl, hs, hb⟩
  obtain ⟨a, cap, rfl⟩ := hs.len (n := (Se.list v).length) (ids_len _) (by omega)
  clear hs
  go_wp2
  go_ret
  exact ⟨rfl, hb⟩

set_option maxHeartbeats 2000000 in
theorem pof_any (s : Value) (l : List Int) (w : World) (hs : FlatAt w s 1 (ints l)) (hl : l.length ≤ 9223372036854775807) :
    Calls Try.prog 22 #[s] w fun e w' => e = .returned (.tuple #[.int .u64 (Se.of l).1, .int .i64 (Se.of l).2]) ∧ w' = w := by
  rcases flat_ints hs (Below.refl _ _) with ⟨rfl, a, cap, rfl⟩ | ⟨h0, b, off, cap, rfl, hc⟩
  · go_enter Try.func22, Try.ntmps22
    go_wp2_with fail
    refine wp_loop_rounds 1 ?_
    rw [rounds_succ]
    go_wp2
    go_ret2
    exact ⟨rfl, rfl⟩
  · have HC := Lib.hid hc
    clear hc hs h0
    go_enter Try.func22, Try.ntmps22
    go_wp2_with fail
    go_loop [4, 9] (fun o i => ∃ (k v : Nat), i = .int .i64 k ∧ o = .int .u64 v ∧ k ≤ l.length ∧ v < 18446744073709551616 ∧ Se.ofL (l.drop k) v = Se.ofL l 0) (fun _ i => l.length - (intOf i).toNat)
    case atStart => exact ⟨0, 0, rfl, rfl, by omega, by omega, rfl⟩
    case round =>
      obtain ⟨k, v, rfl, rfl, hk, hv, hof⟩ := hrel
      by_cases hlt : k < l.length
      · rw [List.drop_eq_getElem_cons hlt] at hof
        have hcell := HC.out k hlt
        obtain ⟨x, hx⟩ : ∃ x, l[k] = x := ⟨_, rfl⟩
        rw [hx] at hof hcell
        simp only [iv] at hcell
        by_cases hr : 1 ≤ x ∧ x ≤ 64
        · obtain ⟨i, rfl⟩ : ∃ i : Nat, x = ((i + 1 : Nat) : Int) := ⟨x.toNat - 1, by omega⟩
          rw [Se.ofL_put _ _ v hr] at hof
          have hlt2 := Se.put_lt v (i + 1) hv (by omega) (by omega)
          have hput : Se.put v (i + 1) = v ||| 2 ^ i := rfl
          have hto : ((i + 1 : Nat) : Int).toNat = i + 1 := by omega
          rw [hto, hput] at hof
          rw [hput] at hlt2
          have hm := fun W => pmask_in i (by omega) W
          have hi := fun W => pis_in ((i + 1 : Nat) : Int) hr.1 hr.2 W
          have hp : 2 ^ i < 18446744073709551616 := Nat.lt_of_le_of_lt (Nat.pow_le_pow_right (by omega) (show i ≤ 63 by omega)) (by decide)
          clear hput hto hx
          generalize 2 ^ i = p at *
          have hor := u64_or_nat v p hv hp
          have HO := Lib.hid hor
          have HF := Lib.hid hof
          clear hor hof hr
          go_wp2_with fail
          refine (hi _).mono ?_
          rintro e w1 ⟨rfl, rfl⟩
          go_wp2_with fail
          refine (hm _).mono ?_
          rintro e w1 ⟨rfl, rfl⟩
          go_wp2
          go_round
          case rel => exact ⟨k + 1, _, by go_num, by rw [HO.out], hlt, hlt2, HF.out⟩
          case measure => simp [intOf]; omega
        · rw [Se.ofL_bad x _ v hr] at hof
          have hfin : Se.of l = (0, 1) := by rw [Se.of, ← hof]
          have hi := fun W => pis_out x (by omega) W
          have HF := Lib.hid hfin
          clear hof hr hx hfin
          go_wp2_with fail
          refine (hi _).mono ?_
          rintro e w1 ⟨rfl, rfl⟩
          go_wp2_with fail
          go_ret2
          exact ⟨by rw [HF.out]; rfl, rfl⟩
      · obtain rfl : k = l.length := by omega
        rw [List.drop_length, Se.ofL] at hof
        have hfin : Se.of l = (v, 0) := by rw [Se.of, ← hof]
        have HF := Lib.hid hfin
        clear hof hfin
        go_wp2
        go_ret2
        exact ⟨by rw [HF.out]; rfl, rfl⟩
end Go.Proofs.Ytlfclkolbjiafaa
