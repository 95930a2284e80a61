/- The document's half of digits', batches' and vertices' Take. -/
import Derived.Test.YtbkpekpajeaacaaTkC
import Derived.Test.YtbkpekpajeaacaaVtxBC
import Derived.RangeFuncNested
import Derived.RangeFuncBound
import Derived.RangeFuncCalls
import Derived.RangeFuncLeaves
import Derived.Shelf.Abstract
import Derived.Shelf.RegionOpen
import Derived.WalkKit
import Derived.OwnWalkIn
import Derived.TacticsInMore
import Derived.LoopNIn
import Derived.LoopIn
import Derived.Maps.AppendAt
import Derived.Deep.QuietTactic
import Derived.BigQuiet
import Derived.Laws.StructEq
import Derived.Laws.BitsAll
import Derived.Deep.SlicePairs
import Derived.Lib.SmallJoins
import Derived.RangeFuncBox
import Derived.Deep.RegionHeld3
import Derived.Laws.BitsAllLaws
import Derived.Lib.Strings
set_option maxRecDepth 100000
namespace Go.Proofs.Ytbkpekpajeaacaa
open Go.RowKit
attribute [local go_sem] ba_zero w64_byte
theorem byte_succ (b : UInt8) (r : List UInt8) (k : Nat) (h : k + 1 < (ByteArray.mk (b :: r).toArray).size) (h' : k < r.length) : (ByteArray.mk (b :: r).toArray)[k + 1]'h = r[k] := rfl
theorem ba_drop_succ (b : UInt8) (r : List UInt8) (k : Nat) : (ByteArray.mk (b :: r).toArray).extract (1 + k) (r.length + 1) = ByteArray.mk (r.drop k).toArray := by
  have := ba_drop (b :: r) (1 + k)
  rw [Nat.add_comm 1 k] at this ⊢
  simpa using this
set_option maxHeartbeats 1000000 in
theorem rtakeNum_nil (w : World) : Calls Try.prog 78 #[tx []] w (TN [] w) := by
  go_enter Try.func78, Try.ntmps78
  go_wp2
  go_ret3
  exact ⟨rfl, 0, rfl⟩
set_option maxHeartbeats 1000000 in
theorem rtakeNum_big (b : UInt8) (r : List UInt8) (h : 8 < b.toNat) (hr : r.length ≤ 140737488351232) (w : World) : Calls Try.prog 78 #[tx (b :: r)] w (TN (b :: r) w) := by
  have hb : b.toNat < 256 := b.toNat_lt
  have hf : Dg.takeNum (b :: r) = (0, [], 3) := by simp [Dg.takeNum, h]
  have hz : ((r.length : Int) + 1 == 0) = false := by rw [beq_eq_false_iff_ne]; omega
  have HF := Lib.hid hf
  clear hf
  go_enter Try.func78, Try.ntmps78
  go_wp2
  go_ret3
  exact ⟨by rw [HF.out]; rfl, 0, rfl⟩
set_option maxHeartbeats 1000000 in
theorem rtakeNum_short (b : UInt8) (r : List UInt8) (h : b.toNat ≤ 8) (h2 : r.length < b.toNat) (hr : r.length ≤ 140737488351232) (w : World) : Calls Try.prog 78 #[tx (b :: r)] w (TN (b :: r) w) := by
  have h' : ¬ 8 < b.toNat := by omega
  have hf : Dg.takeNum (b :: r) = (0, [], 2) := by simp [Dg.takeNum, h', h2]
  have hz : ((r.length : Int) + 1 == 0) = false := by rw [beq_eq_false_iff_ne]; omega
  have HF := Lib.hid hf
  clear hf
  go_enter Try.func78, Try.ntmps78
  go_wp2
  go_ret3
  exact ⟨by rw [HF.out]; rfl, 0, rfl⟩
theorem byte_one (b : UInt8) (r : List UInt8) (h : 1 < (ByteArray.mk (b :: r).toArray).size) (h0 : 0 < r.length) : (ByteArray.mk (b :: r).toArray)[1]'h = (ByteArray.mk r.toArray)[0]'h0 := rfl
set_option maxHeartbeats 1000000 in
theorem rtakeNum_zero (b : UInt8) (r : List UInt8) (h : b.toNat ≤ 8) (h2 : b.toNat ≤ r.length) (h3 : 0 < b.toNat) (h4 : r.headD 1 = 0) (hr : r.length ≤ 140737488351232) (w : World) : Calls Try.prog 78 #[tx (b :: r)] w (TN (b :: r) w) := by
  have h' : ¬ 8 < b.toNat := by omega
  have h2' : ¬ r.length < b.toNat := by omega
  have hf : Dg.takeNum (b :: r) = (0, [], 3) := by rw [Dg.takeNum, if_neg h', if_neg h2', if_pos ⟨h3, h4⟩]
  have hz : ((r.length : Int) + 1 == 0) = false := by rw [beq_eq_false_iff_ne]; omega
  have h0 : 0 < r.length := by omega
  have h1 : 1 < (ByteArray.mk (b :: r).toArray).size := by simp [ByteArray.size]; omega
  have hz1 : ((((ByteArray.mk (b :: r).toArray)[1]'h1).toNat : Int) == 0) = true := by rw [byte_one _ _ _ h0, ← head_zero r h0, h4]; rfl
  have HF := Lib.hid hf
  clear hf h4
  go_enter Try.func78, Try.ntmps78
  go_wp2
  go_ret3
  exact ⟨by rw [HF.out]; rfl, 0, rfl⟩
theorem wrap_byte (a : Nat) (b : UInt8) (h : a < 72057594037927936) : IntKind.u64.wrap ((a : Int) * 256 + IntKind.u64.wrap (b.toNat : Int)) = ((a * 256 + b.toNat : Nat) : Int) := by
  have hb := b.toNat_lt
  rw [IntWalk.u64_in (b.toNat : Int) ⟨by omega, by omega⟩, IntWalk.u64_in _ ⟨by omega, by omega⟩]
  omega
set_option maxHeartbeats 1000000 in
theorem rtakeNum_good (b : UInt8) (r : List UInt8) (h : b.toNat ≤ 8) (h2 : b.toNat ≤ r.length) (h3 : 0 < b.toNat) (h4 : r.headD 1 ≠ 0) (hr : r.length ≤ 140737488351232) (w : World) : Calls Try.prog 78 #[tx (b :: r)] w (TN (b :: r) w) := by
  have h' : ¬ 8 < b.toNat := by omega
  have h2' : ¬ r.length < b.toNat := by omega
  have hf : Dg.takeNum (b :: r) = (Dg.ofB (r.take b.toNat), r.drop b.toNat, 0) := by rw [Dg.takeNum, if_neg h', if_neg h2', if_neg (fun hh => h4 hh.2)]
  have hz : ((r.length : Int) + 1 == 0) = false := by rw [beq_eq_false_iff_ne]; omega
  have h0 : 0 < r.length := by omega
  have h1 : 1 < (ByteArray.mk (b :: r).toArray).size := by simp [ByteArray.size]; omega
  have hz1 : ((((ByteArray.mk (b :: r).toArray)[1]'h1).toNat : Int) == 0) = false := by
    rw [byte_one _ _ _ h0, ← head_zero r h0, beq_eq_false_iff_ne]
    intro hh
    exact h4 (UInt8.toNat_inj.1 (by simpa using hh))
  have HF := Lib.hid hf
  clear hf h4
  go_enter Try.func78, Try.ntmps78
  go_wp2
  clear hz1 hz
  go_loop [6, 7] (fun v i => ∃ k : Nat, k ≤ b.toNat ∧ i = .int .i64 (k + 1 : Nat) ∧ v = .int .u64 (Dg.ofB (r.take k))) (fun _ i => b.toNat + 1 - (intOf i).toNat)
  case atStart => exact ⟨0, by omega, rfl, rfl⟩
  case round =>
    obtain ⟨k, hk, rfl, rfl⟩ := hrel
    by_cases hlt : k < b.toNat
    · have hbd := ofB_take_lt r k (by omega)
      have hkr : k < r.length := by omega
      have hs := ofB_take_succ r k hkr
      have HS := Lib.hid hs
      clear hs
      go_wp2
      go_round
      case rel => exact ⟨k + 1, by omega, by go_num, by rw [byte_succ b r k _ hkr, wrap_byte _ _ hbd, HS.out]⟩
      case measure => simp [intOf]; omega
    · obtain rfl : k = b.toNat := by omega
      go_wp2
      go_quiet (fail)
      simp only [ba_drop_succ]
      go_wp2
      go_ret3
      exact ⟨by rw [HF.out]; rfl, _, rfl⟩
set_option maxHeartbeats 1000000 in
theorem rtakeNum_none (r : List UInt8) (hr : r.length ≤ 140737488351232) (w : World) : Calls Try.prog 78 #[tx (0 :: r)] w (TN (0 :: r) w) := by
  have hf : Dg.takeNum (0 :: r) = (0, r, 0) := by simp [Dg.takeNum, Dg.ofB]
  have hz : ((r.length : Int) + 1 == 0) = false := by rw [beq_eq_false_iff_ne]; omega
  have HF := Lib.hid hf
  clear hf
  go_enter Try.func78, Try.ntmps78
  go_wp2
  clear hz
  go_loop [6, 7] (fun v i => i = .int .i64 1 ∧ v = .int .u64 0) (fun _ _ => 0)
  case atStart => exact ⟨rfl, rfl⟩
  case round =>
    obtain ⟨rfl, rfl⟩ := hrel
    go_wp2
    go_quiet (fail)
    simp only [ba_tail]
    go_wp2
    go_ret3
    exact ⟨by rw [HF.out]; rfl, _, rfl⟩
theorem rtakeNum_any (l : List UInt8) (hl : l.length ≤ 140737488351232) (w : World) : Calls Try.prog 78 #[tx l] w (TN l w) := by
  cases l with
  | nil => exact rtakeNum_nil w
  | cons b r =>
    have hr : r.length ≤ 140737488351232 := by simp at hl; omega
    by_cases h1 : 8 < b.toNat
    · exact rtakeNum_big b r h1 hr w
    by_cases h2 : r.length < b.toNat
    · exact rtakeNum_short b r (by omega) h2 hr w
    by_cases h3 : 0 < b.toNat
    · by_cases h4 : r.headD 1 = 0
      · exact rtakeNum_zero b r (by omega) (by omega) h3 h4 hr w
      · exact rtakeNum_good b r (by omega) (by omega) h3 h4 hr w
    · obtain rfl : b = 0 := UInt8.toNat_inj.1 (by simp; omega)
      exact rtakeNum_none r hr w
end Go.Proofs.Ytbkpekpajeaacaa
namespace Go.Proofs.Ytbkpekpajeaacaa
open Go.RowKit
theorem rtakeNum_eq {l : List UInt8} {n : Nat} {r : List UInt8} {x : Nat} (h : Dg.takeNum l = (n, r, x)) (hl : l.length ≤ 140737488351232) (w : World) :
    Calls Try.prog 78 #[tx l] w fun e w' => e = .returned (.tuple #[.int .u64 n, tx r, .int .i64 x]) ∧ ∃ k, w' = w.drewN k :=
  (rtakeNum_any l hl w).mono fun e w' hh => by rw [TN, h] at hh; exact hh
set_option maxHeartbeats 1000000 in
theorem rtakeText_any (l : List UInt8) (most : Int) (hl : l.length ≤ 140737488351232) (h1 : -9223372036854775808 ≤ most) (h2 : most ≤ 9223372036854775807) (w : World) :
    Calls Try.prog 84 #[tx l, .int .i64 most] w (TT l most w) := by
  obtain ⟨n, r, x, ht⟩ : ∃ n r x, Dg.takeNum l = (n, r, x) := ⟨_, _, _, rfl⟩
  have hr := Dg.takeNum_rest l
  have hn := Dg.takeNum_bound l
  have hx := Dg.takeNum_err l
  rw [ht] at hr hn hx
  simp only [] at hr hn hx
  have hf : Dg.takeText l most = if x ≠ 0 then ([], [], x) else if Dg.above n most = true then ([], [], 4) else if r.length < n then ([], [], 2) else (r.take n, r.drop n, 0) := by simp only [Dg.takeText, ht]
  have HT := Lib.hid ht
  clear ht
  by_cases h0 : x = 0
  · subst h0
    rw [if_neg (by simp)] at hf
    by_cases hm : most < 0
    · rw [if_pos (by simp [Dg.above, hm])] at hf
      have HF := Lib.hid hf
      clear hf hx
      go_enter Try.func84, Try.ntmps84
      go_wp2_with fail
      refine (rtakeNum_eq HT.out hl _).mono ?_
      rintro e w1 ⟨rfl, k, rfl⟩
      go_wp2_with fail
      go_ret3
      exact ⟨by rw [HF.out]; rfl, _, rfl⟩
    · obtain ⟨m, rfl⟩ := Int.eq_ofNat_of_zero_le (show 0 ≤ most by omega)
      by_cases hc : m < n
      · rw [if_pos (by simp [Dg.above, hc])] at hf
        have HF := Lib.hid hf
        clear hf hx
        go_enter Try.func84, Try.ntmps84
        go_wp2_with fail
        refine (rtakeNum_eq HT.out hl _).mono ?_
        rintro e w1 ⟨rfl, k, rfl⟩
        go_wp2_with fail
        go_ret3
        exact ⟨by rw [HF.out]; rfl, _, rfl⟩
      · rw [if_neg (by simp [Dg.above]; omega)] at hf
        clear hx
        by_cases hs : r.length < n
        · rw [if_pos hs] at hf
          have HF := Lib.hid hf
          clear hf
          go_enter Try.func84, Try.ntmps84
          go_wp2_with fail
          refine (rtakeNum_eq HT.out hl _).mono ?_
          rintro e w1 ⟨rfl, k, rfl⟩
          go_wp2_with fail
          go_ret3
          exact ⟨by rw [HF.out]; rfl, _, rfl⟩
        · rw [if_neg hs] at hf
          have HF := Lib.hid hf
          clear hf
          go_enter Try.func84, Try.ntmps84
          go_wp2_with fail
          refine (rtakeNum_eq HT.out hl _).mono ?_
          rintro e w1 ⟨rfl, k, rfl⟩
          go_wp2_with fail
          go_quiet (fail)
          simp only [ba_take, ba_drop]
          go_wp2
          go_ret3
          exact ⟨by rw [HF.out]; rfl, _, by rw [World.drewN_drewN]⟩
  · rw [if_pos h0] at hf
    have h0' : ((x : Int) != 0) = true := by rw [bne_iff_ne]; omega
    have HF := Lib.hid hf
    clear hf hx h0
    go_enter Try.func84, Try.ntmps84
    go_wp2_with fail
    refine (rtakeNum_eq HT.out hl _).mono ?_
    rintro e w1 ⟨rfl, k, rfl⟩
    go_wp2_with fail
    go_ret3
    exact ⟨by rw [HF.out]; rfl, _, rfl⟩
theorem rtakeText_eq {l : List UInt8} {most : Int} {n r : List UInt8} {x : Nat} (h : Dg.takeText l most = (n, r, x)) (hl : l.length ≤ 140737488351232) (h1 : -9223372036854775808 ≤ most) (h2 : most ≤ 9223372036854775807) (w : World) :
    Calls Try.prog 84 #[tx l, .int .i64 most] w fun e w' => e = .returned (.tuple #[tx n, tx r, .int .i64 x]) ∧ ∃ k, w' = w.drewN k :=
  (rtakeText_any l most hl h1 h2 w).mono fun e w' hh => by rw [TT, h] at hh; exact hh
end Go.Proofs.Ytbkpekpajeaacaa
namespace Go.Proofs.Ytbkpekpajeaacaa
open Go.RowKit
set_option maxHeartbeats 2000000 in
theorem rtakeRow_go (l rest : List UInt8) (n : Nat) (many most : Int) (h : Dg.takeNum l = (n, rest, 0)) (ha : Dg.above n many = false) (hl : l.length ≤ 140737488351232) (hs : many ≤ 4294967296 ∨ l.length ≤ 4294967296)
    (m1 : -9223372036854775808 ≤ many) (m2 : many ≤ 9223372036854775807) (o1 : -9223372036854775808 ≤ most) (o2 : most ≤ 9223372036854775807) (w : World) :
    Calls Try.prog 79 #[tx l, .int .i64 many, .int .i64 most] w (TR (Dg.takeTexts n rest most) w) := by
  obtain ⟨i0, hi, hz0, hz1, hz2⟩ := info_parts info_text
  have hn := Dg.takeNum_bound l
  have hr := Dg.takeNum_rest l
  rw [h] at hn hr
  simp only [] at hn hr
  have hc : 0 ≤ many ∧ (n : Int) ≤ many := by simp [Dg.above] at ha; omega
  obtain ⟨hc1, hc2⟩ := hc
  obtain ⟨m, rfl⟩ := Int.eq_ofNat_of_zero_le hc1
  have hc3 : n ≤ m := by omega
  have hd1 : decide ((m : Int) < 0) = false := by simp
  have hd2 : decide (m < n) = false := by simp; omega
  have HS := Lib.hid (show n ≤ 4294967296 ∨ l.length ≤ 4294967296 by omega)
  have HT := Lib.hid h
  clear h ha hs
  go_enter Try.func79, Try.ntmps79
  go_wp2_with fail
  refine (rtakeNum_eq HT.out (by omega) _).mono ?_
  rintro e w1 ⟨rfl, q, rfl⟩
  go_wp2_with fail
  go_loopw [10, 12, 13] (fun r v i wr => ∃ (k : Nat) (s : List UInt8) (acc : List (List UInt8)), i = .int .u64 k ∧ k ≤ n ∧ r = tx s ∧ s.length + acc.length ≤ l.length ∧ acc.length ≤ k ∧ Below w.heap.size w wr ∧ wr.ownsRow w.heap.size 9 1 v acc.length (acc.map tx) ∧ Dg.takeTexts n rest most = Dg.glue acc (Dg.takeTexts (n - k) s most)) (fun _ _ i _ => n - (intOf i).toNat)
  case atStart => exact ⟨0, rest, [], rfl, by omega, rfl, by simpa using hr, by simp, below_drewN (Below.refl _ _) _, ⟨rfl, .inl ⟨rfl, rfl⟩⟩, by rw [Dg.glue_nil]; rfl⟩
  case round =>
    obtain ⟨k, s, acc, rfl, hk, rfl, hlen, hak, hbel, hown, hg⟩ := hrel
    have hA : acc.length ≤ 4294967296 := by rcases HS.out with h | h <;> omega
    by_cases hlt : k < n
    · obtain ⟨t, r, x, ht⟩ : ∃ t r x, Dg.takeText s most = (t, r, x) := ⟨_, _, _, rfl⟩
      obtain ⟨j, hj⟩ : ∃ j, n - k = j + 1 := ⟨n - k - 1, by omega⟩
      have hless := Dg.takeText_less s most
      rw [ht] at hless
      simp only [] at hless
      by_cases h0 : x = 0
      · subst h0
        have hless := hless rfl
        rw [hj, Dg.glue_step acc j s most ht] at hg
        have hj' : n - (k + 1) = j := by omega
        rw [← hj'] at hg
        have HX := Lib.hid ht
        have HG := Lib.hid hg
        have HO := Lib.hid hown
        clear ht hj hg hj' hown
        go_wp2_with fail
        refine (rtakeText_eq HX.out (by omega) o1 o2 _).mono ?_
        rintro e w1 ⟨rfl, q2, rfl⟩
        have hsz := hbel.size
        have hown1 := (below_own HO.out hbel.size q2)
        have HO1 := Lib.hid hown1
        clear hown1
        go_wp2_with (at_builtin; refine wpList_append_own _ rfl _ _ 23 rfl w.heap.size 9 i0 (.string ⟨#[]⟩) 1 16 Try.underlying23 hi hz0 hz1 hz2 rfl (by decide) _ _ _ rfl (HO1.out.alloc _) ⟨wr.heap.size, 0, none⟩ 1 1 [tx t] rfl rfl ?c1 ?c2 ?c3 ?c4 ?c5 ?_)
        case c1 => exact new_cell _ _ rfl _ _
        case c2 => intro u hu; simp at hu; subst hu; rfl
        case c3 => unfold maxLen; omega
        case c4 => omega
        case c5 => simp; omega
        intro v' w2 hown2 hgrow _
        have hown3 : w2.ownsRow w.heap.size 9 1 v' (acc ++ [t]).length ((acc ++ [t]).map tx) := by simpa using hown2
        have hbel2 : Below w.heap.size w w2 := ((below_drewN hbel q2).alloc (by simpa using hsz) _).grown hgrow (by simp; omega) (fun k hk => (HO1.out.lt k hk).1)
        have HO3 := Lib.hid hown3
        clear hown2 hown3 hgrow HO HO1
        go_wp2
        go_roundw
        case rel => exact ⟨k + 1, r, acc ++ [t], by go_num, by omega, rfl, by simp; omega, by simp; omega, hbel2, HO3.out, HG.out⟩
        case measure => simp [intOf]; omega
      · rw [hj, Dg.glue_bad acc j s most ht h0] at hg
        have h0' : ((x : Int) != 0) = true := by rw [bne_iff_ne]; omega
        have HX := Lib.hid ht
        have HG := Lib.hid hg
        clear ht hj hg hown hless h0
        go_wp2_with fail
        refine (rtakeText_eq HX.out (by omega) o1 o2 _).mono ?_
        rintro e w1 ⟨rfl, q2, rfl⟩
        go_wp2_with fail
        go_ret3
        rw [HG.out]
        exact ⟨_, rfl, .inl ⟨_, _, rfl, rfl⟩, TyV.nil _ _ _, below_drewN hbel _⟩
    · obtain rfl : k = n := by omega
      rw [Nat.sub_self, Dg.glue_zero] at hg
      have HG := Lib.hid hg
      have HO := Lib.hid hown
      clear hg hown
      go_wp2
      go_ret3
      rw [HG.out]
      exact ⟨_, rfl, TxAt.own HO.out, TyV.own HO.out, hbel⟩
set_option maxHeartbeats 1000000 in
theorem rtakeRow_bad (l rest : List UInt8) (n x : Nat) (many most : Int) (h : Dg.takeNum l = (n, rest, x)) (hx : x ≠ 0) (hl : l.length ≤ 140737488351232) (w : World) :
    Calls Try.prog 79 #[tx l, .int .i64 many, .int .i64 most] w (TR ([], [], x) w) := by
  have h0' : ((x : Int) != 0) = true := by rw [bne_iff_ne]; omega
  have HT := Lib.hid h
  clear h hx
  go_enter Try.func79, Try.ntmps79
  go_wp2_with fail
  refine (rtakeNum_eq HT.out (by omega) _).mono ?_
  rintro e w1 ⟨rfl, q, rfl⟩
  go_wp2_with fail
  go_ret3
  exact ⟨_, rfl, .inl ⟨_, _, rfl, rfl⟩, TyV.nil _ _ _, grow_draws _ _⟩
set_option maxHeartbeats 1000000 in
theorem rtakeRow_above (l rest : List UInt8) (n : Nat) (many most : Int) (h : Dg.takeNum l = (n, rest, 0)) (ha : Dg.above n many = true) (hl : l.length ≤ 140737488351232)
    (m1 : -9223372036854775808 ≤ many) (m2 : many ≤ 9223372036854775807) (w : World) :
    Calls Try.prog 79 #[tx l, .int .i64 many, .int .i64 most] w (TR ([], [], 4) w) := by
  have HT := Lib.hid h
  clear h
  by_cases hm : many < 0
  · clear ha
    go_enter Try.func79, Try.ntmps79
    go_wp2_with fail
    refine (rtakeNum_eq HT.out (by omega) _).mono ?_
    rintro e w1 ⟨rfl, q, rfl⟩
    go_wp2_with fail
    go_ret3
    exact ⟨_, rfl, .inl ⟨_, _, rfl, rfl⟩, TyV.nil _ _ _, grow_draws _ _⟩
  · obtain ⟨m, rfl⟩ := Int.eq_ofNat_of_zero_le (show 0 ≤ many by omega)
    have hc : m < n := by simp [Dg.above] at ha; omega
    clear ha
    go_enter Try.func79, Try.ntmps79
    go_wp2_with fail
    refine (rtakeNum_eq HT.out (by omega) _).mono ?_
    rintro e w1 ⟨rfl, q, rfl⟩
    go_wp2_with fail
    go_ret3
    exact ⟨_, rfl, .inl ⟨_, _, rfl, rfl⟩, TyV.nil _ _ _, grow_draws _ _⟩
theorem rtakeRow_gen (l : List UInt8) (many most : Int) (hl : l.length ≤ 140737488351232) (hs : many ≤ 4294967296 ∨ l.length ≤ 4294967296)
    (m1 : -9223372036854775808 ≤ many) (m2 : many ≤ 9223372036854775807) (o1 : -9223372036854775808 ≤ most) (o2 : most ≤ 9223372036854775807) (w : World) :
    Calls Try.prog 79 #[tx l, .int .i64 many, .int .i64 most] w (TR (Dg.takeRow l many most) w) := by
  obtain ⟨n, r, x, ht⟩ : ∃ n r x, Dg.takeNum l = (n, r, x) := ⟨_, _, _, rfl⟩
  by_cases hx : x = 0
  · subst hx
    cases ha : Dg.above n many with
    | true =>
      have e : Dg.takeRow l many most = ([], [], 4) := by simp [Dg.takeRow, ht, ha]
      rw [e]
      exact rtakeRow_above l r n many most ht ha hl m1 m2 w
    | false =>
      have e : Dg.takeRow l many most = Dg.takeTexts n r most := by simp [Dg.takeRow, ht, ha]
      rw [e]
      exact rtakeRow_go l r n many most ht ha hl hs m1 m2 o1 o2 w
  · have e : Dg.takeRow l many most = ([], [], x) := by simp [Dg.takeRow, ht, hx]
    rw [e]
    exact rtakeRow_bad l r n x many most ht hx hl w
theorem rtakeRow_any (l : List UInt8) (many most : Int) (hl : l.length ≤ 4294967296)
    (m1 : -9223372036854775808 ≤ many) (m2 : many ≤ 9223372036854775807) (o1 : -9223372036854775808 ≤ most) (o2 : most ≤ 9223372036854775807) (w : World) :
    Calls Try.prog 79 #[tx l, .int .i64 many, .int .i64 most] w (TR (Dg.takeRow l many most) w) := rtakeRow_gen l many most (by omega) (.inr hl) m1 m2 o1 o2 w
end Go.Proofs.Ytbkpekpajeaacaa
namespace Go.Proofs.Ytbkpekpajeaacaa
open Go.RowKit
theorem rtakeRowG_eq {l : List UInt8} {many most : Int} {R : Dg.Res} (h : Dg.takeRow l many most = R) (hl : l.length ≤ 140737488351232) (hs : many ≤ 4294967296 ∨ l.length ≤ 4294967296)
    (m1 : -9223372036854775808 ≤ many) (m2 : many ≤ 9223372036854775807) (o1 : -9223372036854775808 ≤ most) (o2 : most ≤ 9223372036854775807) (w : World) :
    Calls Try.prog 79 #[tx l, .int .i64 many, .int .i64 most] w (TR R w) := by subst h; exact rtakeRow_gen l many most hl hs m1 m2 o1 o2 w
set_option maxHeartbeats 2000000 in
theorem rbtake (s : List UInt8) (hs : s.length ≤ 140737488351232) (w : World) :
    Calls Try.prog 80 #[tx s] w (TB (Bt.take s) w) := by
  obtain ⟨o, a, x, h1⟩ : ∃ o a x, Dg.takeNum s = (o, a, x) := ⟨_, _, _, rfl⟩
  obtain ⟨q, b, y, h2⟩ : ∃ q b y, Dg.takeNum a = (q, b, y) := ⟨_, _, _, rfl⟩
  obtain ⟨l, c, z, h3⟩ : ∃ l c z, Dg.takeRow b 4 48 = (l, c, z) := ⟨_, _, _, rfl⟩
  have la : a.length ≤ s.length := by have := Dg.takeNum_rest s; rw [h1] at this; exact this
  have lb : b.length ≤ a.length := by have := Dg.takeNum_rest a; rw [h2] at this; exact this
  have H1 := Lib.hid h1
  have H2 := Lib.hid h2
  have H3 := Lib.hid h3
  clear h1 h2 h3
  by_cases hx : x = 0
  · subst hx
    by_cases h64 : 64 < o
    · have E := Lib.hid (Bt.takeO H1.out h64)
      have t1 : decide (64 < (o : Int)) = true := decide_eq_true (by omega)
      clear h64
      go_enter Try.func80, Try.ntmps80
      go_wp2_with fail
      refine (rtakeNum_eq H1.out (by omega) _).mono ?_
      rintro e w1 ⟨rfl, k, rfl⟩
      go_wp2_with fail
      refine bodyPost_ret (v := .tuple #[batV 0 0 (.slice none 0 0), .int .i64 3]) (by simp [results, Try.results80, go_sem]) rfl ?_
      rw [E.out]
      exact ⟨_, rfl, .inl ⟨_, _, rfl, rfl⟩, TyV.nil _ _ _, BBox.set_below (below_drewN ((Below.refl _ _).alloc (Nat.le_refl _) _) _) (Nat.le_refl _) _ _ _⟩
    have t1 : decide (64 < (o : Int)) = false := decide_eq_false (by omega)
    have wo := wrap_small o (by omega)
    by_cases hy : y = 0
    · subst hy
      by_cases hq : 1073741824 < q
      · have E := Lib.hid (Bt.takeQ H1.out H2.out hq)
        have t2 : decide (1073741824 < (q : Int)) = true := decide_eq_true (by omega)
        clear h64 hq
        go_enter Try.func80, Try.ntmps80
        go_wp2_with fail
        refine (rtakeNum_eq H1.out (by omega) _).mono ?_
        rintro e w1 ⟨rfl, k, rfl⟩
        go_wp2_with fail
        refine (rtakeNum_eq H2.out (by omega) _).mono ?_
        rintro e w1 ⟨rfl, k2, rfl⟩
        go_wp2_with fail
        refine bodyPost_ret (v := .tuple #[batV 0 0 (.slice none 0 0), .int .i64 3]) (by simp [results, Try.results80, go_sem]) rfl ?_
        rw [E.out]
        exact ⟨_, rfl, .inl ⟨_, _, rfl, rfl⟩, TyV.nil _ _ _, BBox.set_below (below_drewN ((Below.refl _ _).alloc (Nat.le_refl _) _) _) (Nat.le_refl _) _ _ _⟩
      have t2 : decide (1073741824 < (q : Int)) = false := decide_eq_false (by omega)
      have wq := wrap_small q (by omega)
      have hll : l.length ≤ 140737488351232 := by have := Dg.takeRow_len b 4 48; rw [H3.out] at this; have := this.1; simp only [] at this; omega
      clear h64 hq
      go_enter Try.func80, Try.ntmps80
      go_wp2_with fail
      refine (rtakeNum_eq H1.out (by omega) _).mono ?_
      rintro e w1 ⟨rfl, k, rfl⟩
      go_wp2_with fail
      refine (rtakeNum_eq H2.out (by omega) _).mono ?_
      rintro e w1 ⟨rfl, k2, rfl⟩
      go_wp2_with fail
      refine (rtakeRowG_eq H3.out (by omega) (.inl (by omega)) (by omega) (by omega) (by omega) (by omega) _).mono ?_
      rintro e w1 ⟨v, rfl, hv, ty, hb⟩
      obtain ⟨av, cv, rfl⟩ := hv.len
      have hx0 := ((BBox.new w 0 0 (.slice none 0 0)).kept (grow_trans (grow_draws _ _) hb))
      have hbw : Below w.heap.size w w1 := grow_trans (below_drewN ((Below.refl _ _).alloc (Nat.le_refl _) _) _) hb
      have hs1 := hx0.lt
      have hx1 := hx0.alloc (.cells #[.int .i64 o, .int .i64 q, .slice av l.length cv] 105)
      have hmay := fun W h => rbmay o q (.slice av l.length cv) l W h
      obtain ⟨r, hr⟩ : ∃ r, Bt.may ((o : Int), (q : Int), l) = r := ⟨_, rfl⟩
      rw [hr] at hmay
      have HR := Lib.hid hr
      have HM := Lib.hid hmay
      have HV := Lib.hid hv
      have TY := Lib.hid ty
      have HB := Lib.hid hbw
      have HX := Lib.hid hx1
      clear ty hr hmay hv hbw hx1 hx0 hb
      go_wp2_with fail
      refine (HM.out _ (HV.out.below ((Below.refl _ _).alloc (Nat.le_refl _) _))).mono ?_
      rintro e w2 ⟨rfl, hb2⟩
      have hx2 := (BBox.new w1 (o : Int) (q : Int) (.slice av l.length cv)).kept hb2
      have hx3 := HX.out.kept hb2
      obtain ⟨u0, u1, u2, _⟩ := hx2.facts
      obtain ⟨_, _, _, v0, v1, v2⟩ := hx3.facts
      have HX3 := Lib.hid hx3
      have HB2 := Lib.hid ((HB.out.alloc HB.out.size (.cells #[.int .i64 o, .int .i64 q, .slice av l.length cv] 105)).trans (hb2.mono (Nat.le_trans HB.out.size (by simp))))
      have HV2 := Lib.hid (HV.out.below (((Below.refl _ _).alloc (Nat.le_refl _) _).trans (hb2.mono (by simp))))
      have TY2 := Lib.hid (TY.out.below (((Below.refl _ _).alloc (Nat.le_refl _) _).trans (hb2.mono (by simp))))
      clear hx2 hx3 hb2
      by_cases hz : z = 0
      · subst hz
        cases c with
        | nil =>
          cases r with
          | true =>
            have E := Lib.hid (Bt.take4 H1.out H2.out H3.out HR.out)
            go_wp2_with fail
            refine bodyPost_ret (v := .tuple #[batV o q (.slice av l.length cv), .int .i64 0]) ?_ rfl ?_
            · obtain ⟨d0, d1, d2, _⟩ := (HX3.out.set o q (.slice av l.length cv)).facts
              simp [results, Try.results80, go_sem, d0, d1, d2]
            · rw [E.out]
              exact ⟨_, rfl, HV2.out.setB HX3.out _ _ _, ((TY2.out.set _ _ _).set _ _ _).set _ _ _, BBox.set_below HB2.out (Nat.le_refl _) _ _ _⟩
          | false =>
            have E := Lib.hid (Bt.take3 H1.out H2.out H3.out (.inr (.inr HR.out)))
            go_wp2_with fail
            refine bodyPost_ret (v := .tuple #[batV 0 0 (.slice none 0 0), .int .i64 3]) ?_ rfl ?_
            · obtain ⟨d0, d1, d2, _⟩ := (HX3.out.set 0 0 (.slice none 0 0)).facts
              simp [results, Try.results80, go_sem, d0, d1, d2]
            · rw [E.out]
              exact ⟨_, rfl, .inl ⟨_, _, rfl, rfl⟩, TyV.nil _ _ _, BBox.set_below HB2.out (Nat.le_refl _) _ _ _⟩
        | cons cx ct =>
          have E := Lib.hid (Bt.take3 H1.out H2.out H3.out (.inr (.inl (by simp))))
          go_wp2_with fail
          refine bodyPost_ret (v := .tuple #[batV 0 0 (.slice none 0 0), .int .i64 3]) ?_ rfl ?_
          · obtain ⟨d0, d1, d2, _⟩ := (HX3.out.set 0 0 (.slice none 0 0)).facts
            simp [results, Try.results80, go_sem, d0, d1, d2]
          · rw [E.out]
            exact ⟨_, rfl, .inl ⟨_, _, rfl, rfl⟩, TyV.nil _ _ _, BBox.set_below HB2.out (Nat.le_refl _) _ _ _⟩
      · have E := Lib.hid (Bt.take3 H1.out H2.out H3.out (.inl hz))
        have t3 : ((z : Int) != 0) = true := by rw [bne_iff_ne]; omega
        clear hz
        go_wp2_with fail
        refine bodyPost_ret (v := .tuple #[batV 0 0 (.slice none 0 0), .int .i64 3]) ?_ rfl ?_
        · obtain ⟨d0, d1, d2, _⟩ := (HX3.out.set 0 0 (.slice none 0 0)).facts
          simp [results, Try.results80, go_sem, d0, d1, d2]
        · rw [E.out]
          exact ⟨_, rfl, .inl ⟨_, _, rfl, rfl⟩, TyV.nil _ _ _, BBox.set_below HB2.out (Nat.le_refl _) _ _ _⟩
    · have E := Lib.hid (Bt.take2 H1.out H2.out hy)
      have t3 : ((y : Int) != 0) = true := by rw [bne_iff_ne]; omega
      clear h64 hy
      go_enter Try.func80, Try.ntmps80
      go_wp2_with fail
      refine (rtakeNum_eq H1.out (by omega) _).mono ?_
      rintro e w1 ⟨rfl, k, rfl⟩
      go_wp2_with fail
      refine (rtakeNum_eq H2.out (by omega) _).mono ?_
      rintro e w1 ⟨rfl, k2, rfl⟩
      go_wp2_with fail
      refine bodyPost_ret (v := .tuple #[batV 0 0 (.slice none 0 0), .int .i64 3]) (by simp [results, Try.results80, go_sem]) rfl ?_
      rw [E.out]
      exact ⟨_, rfl, .inl ⟨_, _, rfl, rfl⟩, TyV.nil _ _ _, BBox.set_below (below_drewN ((Below.refl _ _).alloc (Nat.le_refl _) _) _) (Nat.le_refl _) _ _ _⟩
  · have E := Lib.hid (Bt.take1 H1.out hx)
    have t3 : ((x : Int) != 0) = true := by rw [bne_iff_ne]; omega
    clear hx
    go_enter Try.func80, Try.ntmps80
    go_wp2_with fail
    refine (rtakeNum_eq H1.out (by omega) _).mono ?_
    rintro e w1 ⟨rfl, k, rfl⟩
    go_wp2_with fail
    refine bodyPost_ret (v := .tuple #[batV 0 0 (.slice none 0 0), .int .i64 3]) (by simp [results, Try.results80, go_sem]) rfl ?_
    rw [E.out]
    exact ⟨_, rfl, .inl ⟨_, _, rfl, rfl⟩, TyV.nil _ _ _, BBox.set_below (below_drewN ((Below.refl _ _).alloc (Nat.le_refl _) _) _) (Nat.le_refl _) _ _ _⟩
end Go.Proofs.Ytbkpekpajeaacaa
namespace Go.Proofs.Ytbkpekpajeaacaa
open Go.RowKit
set_option maxRecDepth 100000
theorem rbtake_eq {s : List UInt8} {R : Bt.Bat × Nat} (h : Bt.take s = R) (hs : s.length ≤ 140737488351232) (w : World) : Calls Try.prog 80 #[tx s] w (TB R w) := by subst h; exact rbtake s hs w
theorem own_set {w : World} {base k n R : Nat} {t : TypeId} {v : Value} {cs : List Value} (h : w.ownsRow base t k v n cs) (hR : R < base) (i : Nat) (x : Value) : (w.setCell ⟨R, i, none⟩ x).ownsRow base t k v n cs := by
  obtain ⟨h1, h2⟩ := h
  refine ⟨h1, ?_⟩
  rcases h2 with h2 | ⟨g, cap, cur, hv, hg, hh, r⟩
  · exact .inl h2
  · exact .inr ⟨g, cap, cur, hv, hg, by rw [Below.heap_setCell w ⟨R, i, none⟩ x g (by show g ≠ R; omega)]; exact hh, r⟩
end Go.Proofs.Ytbkpekpajeaacaa
namespace Go.Proofs.Ytbkpekpajeaacaa
open Go.RowKit
set_option maxRecDepth 100000
attribute [local go_sem] build_el
theorem takeN_grow {l r : List UInt8} {n x : Nat} (h : Dg.takeNum l = (n, r, x)) (hl : l.length ≤ 140737488351232) (w : World) :
    Calls Try.prog 78 #[tx l] w fun e w' => e = .returned (.tuple #[.int .u64 n, tx r, .int .i64 x]) ∧ Below w.heap.size w w' :=
  (rtakeNum_eq h hl w).mono fun e w' ⟨he, q, hq⟩ => ⟨he, by rw [hq]; exact grow_draws _ _⟩
/-- Where the loop stands: the answer's cells R, the vertex in box V. -/
structure LS (w wr : World) (R V base : Nat) (a r x y : Int) (bv pv : Value) (acc : List Bt.Bat) (ps : List (List UInt8)) (k : Nat) : Prop where
  kr : VBox wr R 0 0 (.slice none 0 0) (.slice none 0 0) 0 0
  kv : VBox wr V a r bv pv x y
  bs : ∃ cs, wr.ownsRow base 105 3 bv k cs ∧ BtsM 0 wr.heap.size wr cs acc
  pt : TxT wr pv ps
  b : Below w.heap.size w wr
theorem LS.keep {w wr w' : World} {R V base k : Nat} {a r x y : Int} {bv pv : Value} {acc : List Bt.Bat} {ps : List (List UInt8)} (h : LS w wr R V base a r x y bv pv acc ps k) (hb : Below wr.heap.size wr w') : LS w w' R V base a r x y bv pv acc ps k := by
  obtain ⟨cs, h1, h2⟩ := h.bs
  exact ⟨h.kr.kept hb, h.kv.kept hb, ⟨cs, own_keep h1 hb, (h2.keep (Stays.of hb)).mono (Nat.le_refl _) hb.size⟩, h.pt.keepT (Keeps.of hb), grow_trans h.b hb⟩
theorem own_slice {w : World} {base k n : Nat} {t : TypeId} {v : Value} {cs : List Value} (h : w.ownsRow base t k v n cs) : ∃ a c, v = .slice a n c := by
  rcases h.2 with ⟨rfl, hn⟩ | ⟨g, cap, cur, rfl, _⟩
  · exact ⟨none, 0, by rw [hn]⟩
  · exact ⟨_, _, rfl⟩
theorem VBox.row {wr W3 w8 : World} {V base k : Nat} {a r x y : Int} {bv pv u : Value} {cs : List Value} (kv : VBox wr V a r u pv x y) (h1 : wr.ownsRow base 105 3 bv k cs) (hV : V < base) (g13 : Below wr.heap.size wr W3) (hg : W3.grownBy w8 bv.ownBlock) : VBox w8 V a r u pv x y := by
  have e : w8.heap[V]? = wr.heap[V]? := by rw [hg.block V (Nat.lt_of_lt_of_le kv.lt g13.size) (fun e => by have := (h1.lt V e.symm).1; omega), g13.block V kv.lt]
  exact e.trans kv
theorem LS.step {w wr W3 w8 : World} {R V base k : Nat} {a r x y o q : Int} {bv pv v' u : Value} {acc : List Bt.Bat} {ps m : List (List UInt8)} {cs : List Value}
    (kr : VBox wr R 0 0 (.slice none 0 0) (.slice none 0 0) 0 0) (kv : VBox wr V a r bv pv x y) (h1 : wr.ownsRow base 105 3 bv k cs) (h2 : BtsM 0 wr.heap.size wr cs acc) (pt : TxT wr pv ps) (b : Below w.heap.size w wr)
    (hR : R < base) (hV : V < base) (hne : R ≠ V) (hwR : w.heap.size ≤ R) (hwV : w.heap.size ≤ V) (g13 : Below wr.heap.size wr W3) (hm : TxM 0 wr.heap.size wr u m)
    (hown : w8.ownsRow base 105 3 v' (k + 1) (cs ++ [.int .i64 o, .int .i64 q, u])) (hg : W3.grownBy w8 bv.ownBlock) :
    LS w (w8.setCell ⟨V, 2, none⟩ v') R V base a r x y v' pv (acc ++ [(o, q, m)]) ps (k + 1) ∧ ∀ v ls, TxT wr v ls → TxT (w8.setCell ⟨V, 2, none⟩ v') v ls := by
  have st : Stays 0 W3.heap.size W3 w8 := Stays.row (own_keep h1 g13) (Nat.zero_le _) hg (Nat.le_refl _) (by decide)
  have hb : ∀ g, g < base → g < wr.heap.size → w8.heap[g]? = wr.heap[g]? := fun g hgb hlt => by
    rw [hg.block g (Nat.lt_of_lt_of_le hlt g13.size) (fun e => by have := (h1.lt g e.symm).1; omega), g13.block g hlt]
  have kr8 : VBox w8 R 0 0 (.slice none 0 0) (.slice none 0 0) 0 0 := (hb R hR kr.lt).trans kr
  have kv8 : VBox w8 V a r bv pv x y := (hb V hV kv.lt).trans kv
  have K : Keeps w8 (w8.setCell ⟨V, 2, none⟩ v') := Keeps.set kv8 (by decide) 2 v'
  have tk : ∀ v ls, TxT wr v ls → TxT (w8.setCell ⟨V, 2, none⟩ v') v ls := fun v ls ht => TxM.keepT ((((ht.keep (Stays.of g13)).mono (Nat.le_refl _) g13.size).keep st).mono (Nat.le_refl _) hg.size) K
  have hm8 : TxM 0 w8.heap.size w8 u m := (((hm.keep (Stays.of g13)).mono (Nat.le_refl _) g13.size).keep st).mono (Nat.le_refl _) hg.size
  have hs8 : BtsM 0 w8.heap.size w8 cs acc := (((h2.keep (Stays.of g13)).mono (Nat.le_refl _) g13.size).keep st).mono (Nat.le_refl _) hg.size
  have hs9 : BtsM 0 w8.heap.size w8 (cs ++ [.int .i64 o, .int .i64 q, u]) (acc ++ [(o, q, m)]) := BtsM.app (ds := [.int .i64 o, .int .i64 q, u]) (ys := [(o, q, m)]) (show _ ∧ _ from ⟨rfl, rfl, hm8, trivial⟩) hs8
  refine ⟨⟨kr8.other hne 2 v', heap_setQ (k := 2) kv8 v', ⟨_, own_set hown hV 2 v', (hs9.keep (K.stays _)).mono (Nat.le_refl _) K.size⟩, tk _ _ pt, ?_⟩, tk⟩
  exact below_setQ (((b.trans (g13.mono b.size))).grown hg (Nat.le_trans b.size g13.size) (fun g e => by have := (h1.lt g e).1; omega)) hwV 2 v'
set_option maxHeartbeats 16000000 in
theorem rvtake (s : List UInt8) (n : Int) (hs : s.length ≤ 140737488351232) (n1 : -9223372036854775808 ≤ n) (n2 : n ≤ 9223372036854775807) (w : World) :
    Calls Try.prog 46 #[tx s, .int .i64 n] w (TV (Vt.take s n) w) := by
  have V0 := Lib.hid (VBox.new w 0 0 (.slice none 0 0) (.slice none 0 0) 0 0)
  have G0 := Lib.hid (show Below w.heap.size w (w.alloc (.cells #[.int .i64 0, .int .i64 0, .slice none 0 0, .slice none 0 0, .int .i64 0, .int .i64 0] 27)) from (Below.refl _ _).alloc (Nat.le_refl _) _)
  obtain ⟨i0, hi, hz0, hz1, hz2⟩ := info_parts info_bat
  obtain ⟨a, s1, z1, h1⟩ : ∃ a s1 z1, Dg.takeNum s = (a, s1, z1) := ⟨_, _, _, rfl⟩
  obtain ⟨r, s2, z2, h2⟩ : ∃ r s2 z2, Dg.takeNum s1 = (r, s2, z2) := ⟨_, _, _, rfl⟩
  have l1 : s1.length ≤ s.length := by have := Dg.takeNum_rest s; rw [h1] at this; exact this
  have l2 : s2.length ≤ s1.length := by have := Dg.takeNum_rest s1; rw [h2] at this; exact this
  have H1 := Lib.hid h1
  have H2 := Lib.hid h2
  clear h1 h2
  by_cases e1 : z1 = 0
  case neg =>
    have t1 : ((z1 : Int) != 0) = true := by rw [bne_iff_ne]; omega
    go_enter Try.func46, Try.ntmps46
    go_wp2_with fail
    refine (takeN_grow H1.out hs _).mono ?_
    rintro e u1 ⟨rfl, g1⟩
    have u1v := Lib.hid (V0.out.kept g1)
    have U1 := Lib.hid (G0.out.trans (g1.mono (by simp)))
    clear g1
    go_wp2_with fail
    refine (takeN_grow H2.out (by omega) _).mono ?_
    rintro e w1 ⟨rfl, g1⟩
    have v1 := Lib.hid (u1v.out.kept g1)
    have G1 := Lib.hid (grow_trans U1.out g1)
    clear g1
    have E := Lib.hid (Vt.take_no (s := s) (n := n) fun u hu e => by
      obtain ⟨t1, t2, t3, t4, t5, k1, k2, k3, k4, k5, k6, k7⟩ := Vt.chain hu e
      have ff := Vt.fits hu
      rw [H1.out] at k1; simp only [Prod.mk.injEq] at k1; exact e1 k1.2.2)
    obtain ⟨c0, c1, c2, c3, c4, c5⟩ := v1.out.cells
    obtain ⟨f0, f1, f2, f3, f4, f5⟩ := v1.out.free
    go_wp2_with fail
    refine bodyPost_ret (v := .tuple #[vtxV 0 0 (.slice none 0 0) (.slice none 0 0) 0 0, .int .i64 3]) ?_ rfl ?_
    · obtain ⟨d0, d1, d2, d3, d4, d5⟩ := (v1.out.sets 0 0 (.slice none 0 0) (.slice none 0 0) 0 0).cells
      simp [results, Try.results46, go_sem, d0, d1, d2, d3, d4, d5]
    · rw [E.out]
      exact ⟨_, _, rfl, BtsT.nil _ _, TxT.nil _ _, below_vsets G1.out (Nat.le_refl _) _ _ _ _ _ _⟩
  subst e1
  by_cases e2 : z2 = 0
  case neg =>
    have t2 : ((z2 : Int) != 0) = true := by rw [bne_iff_ne]; omega
    go_enter Try.func46, Try.ntmps46
    go_wp2_with fail
    refine (takeN_grow H1.out hs _).mono ?_
    rintro e u1 ⟨rfl, g1⟩
    have u1v := Lib.hid (V0.out.kept g1)
    have U1 := Lib.hid (G0.out.trans (g1.mono (by simp)))
    clear g1
    go_wp2_with fail
    refine (takeN_grow H2.out (by omega) _).mono ?_
    rintro e w1 ⟨rfl, g1⟩
    have v1 := Lib.hid (u1v.out.kept g1)
    have G1 := Lib.hid (grow_trans U1.out g1)
    clear g1
    have E := Lib.hid (Vt.take_no (s := s) (n := n) fun u hu e => by
      obtain ⟨t1, t2, t3, t4, t5, k1, k2, k3, k4, k5, k6, k7⟩ := Vt.chain hu e
      have ff := Vt.fits hu
      rw [H1.out] at k1; simp only [Prod.mk.injEq] at k1; obtain ⟨m1, rfl, _⟩ := k1
      rw [H2.out] at k2; simp only [Prod.mk.injEq] at k2; exact e2 k2.2.2)
    obtain ⟨c0, c1, c2, c3, c4, c5⟩ := v1.out.cells
    obtain ⟨f0, f1, f2, f3, f4, f5⟩ := v1.out.free
    go_wp2_with fail
    refine bodyPost_ret (v := .tuple #[vtxV 0 0 (.slice none 0 0) (.slice none 0 0) 0 0, .int .i64 3]) ?_ rfl ?_
    · obtain ⟨d0, d1, d2, d3, d4, d5⟩ := (v1.out.sets 0 0 (.slice none 0 0) (.slice none 0 0) 0 0).cells
      simp [results, Try.results46, go_sem, d0, d1, d2, d3, d4, d5]
    · rw [E.out]
      exact ⟨_, _, rfl, BtsT.nil _ _, TxT.nil _ _, below_vsets G1.out (Nat.le_refl _) _ _ _ _ _ _⟩
  subst e2
  by_cases e3 : a ≤ 64
  case neg =>
    have t3 : decide (64 < (a : Int)) = true := decide_eq_true (by omega)
    go_enter Try.func46, Try.ntmps46
    go_wp2_with fail
    refine (takeN_grow H1.out hs _).mono ?_
    rintro e u1 ⟨rfl, g1⟩
    have u1v := Lib.hid (V0.out.kept g1)
    have U1 := Lib.hid (G0.out.trans (g1.mono (by simp)))
    clear g1
    go_wp2_with fail
    refine (takeN_grow H2.out (by omega) _).mono ?_
    rintro e w1 ⟨rfl, g1⟩
    have v1 := Lib.hid (u1v.out.kept g1)
    have G1 := Lib.hid (grow_trans U1.out g1)
    clear g1
    have E := Lib.hid (Vt.take_no (s := s) (n := n) fun u hu e => by
      obtain ⟨t1, t2, t3, t4, t5, k1, k2, k3, k4, k5, k6, k7⟩ := Vt.chain hu e
      have ff := Vt.fits hu
      rw [H1.out] at k1; simp only [Prod.mk.injEq] at k1; have := ff.a2; have := ff.n2; omega)
    obtain ⟨c0, c1, c2, c3, c4, c5⟩ := v1.out.cells
    obtain ⟨f0, f1, f2, f3, f4, f5⟩ := v1.out.free
    go_wp2_with fail
    refine bodyPost_ret (v := .tuple #[vtxV 0 0 (.slice none 0 0) (.slice none 0 0) 0 0, .int .i64 3]) ?_ rfl ?_
    · obtain ⟨d0, d1, d2, d3, d4, d5⟩ := (v1.out.sets 0 0 (.slice none 0 0) (.slice none 0 0) 0 0).cells
      simp [results, Try.results46, go_sem, d0, d1, d2, d3, d4, d5]
    · rw [E.out]
      exact ⟨_, _, rfl, BtsT.nil _ _, TxT.nil _ _, below_vsets G1.out (Nat.le_refl _) _ _ _ _ _ _⟩
  have t3 : decide (64 < (a : Int)) = false := decide_eq_false (by omega)
  by_cases e4 : r ≤ 1048576
  case neg =>
    have t4 : decide (1048576 < (r : Int)) = true := decide_eq_true (by omega)
    go_enter Try.func46, Try.ntmps46
    go_wp2_with fail
    refine (takeN_grow H1.out hs _).mono ?_
    rintro e u1 ⟨rfl, g1⟩
    have u1v := Lib.hid (V0.out.kept g1)
    have U1 := Lib.hid (G0.out.trans (g1.mono (by simp)))
    clear g1
    go_wp2_with fail
    refine (takeN_grow H2.out (by omega) _).mono ?_
    rintro e w1 ⟨rfl, g1⟩
    have v1 := Lib.hid (u1v.out.kept g1)
    have G1 := Lib.hid (grow_trans U1.out g1)
    clear g1
    have E := Lib.hid (Vt.take_no (s := s) (n := n) fun u hu e => by
      obtain ⟨t1, t2, t3, t4, t5, k1, k2, k3, k4, k5, k6, k7⟩ := Vt.chain hu e
      have ff := Vt.fits hu
      rw [H1.out] at k1; simp only [Prod.mk.injEq] at k1; obtain ⟨m1, rfl, _⟩ := k1
      rw [H2.out] at k2; simp only [Prod.mk.injEq] at k2; have := ff.r2; omega)
    obtain ⟨c0, c1, c2, c3, c4, c5⟩ := v1.out.cells
    obtain ⟨f0, f1, f2, f3, f4, f5⟩ := v1.out.free
    go_wp2_with fail
    refine bodyPost_ret (v := .tuple #[vtxV 0 0 (.slice none 0 0) (.slice none 0 0) 0 0, .int .i64 3]) ?_ rfl ?_
    · obtain ⟨d0, d1, d2, d3, d4, d5⟩ := (v1.out.sets 0 0 (.slice none 0 0) (.slice none 0 0) 0 0).cells
      simp [results, Try.results46, go_sem, d0, d1, d2, d3, d4, d5]
    · rw [E.out]
      exact ⟨_, _, rfl, BtsT.nil _ _, TxT.nil _ _, below_vsets G1.out (Nat.le_refl _) _ _ _ _ _ _⟩
  have t4 : decide (1048576 < (r : Int)) = false := decide_eq_false (by omega)
  have wa := wrap_small a (by omega)
  have wrr := wrap_small r (by omega)
  obtain ⟨l, s3, z3, h3⟩ : ∃ l s3 z3, Dg.takeRow s2 4 400 = (l, s3, z3) := ⟨_, _, _, rfl⟩
  have l3 : s3.length ≤ s2.length := by have := (Dg.takeRow_len s2 4 400).2; rw [h3] at this; exact this
  have H3 := Lib.hid h3
  have A64 := Lib.hid (And.intro e3 e4)
  clear h3 e3 e4
  go_enter Try.func46, Try.ntmps46
  go_wp2_with fail
  refine (takeN_grow H1.out hs _).mono ?_
  rintro e u1 ⟨rfl, g1⟩
  have u1v := Lib.hid (V0.out.kept g1)
  have U1 := Lib.hid (G0.out.trans (g1.mono (by simp)))
  clear g1
  go_wp2_with fail
  refine (takeN_grow H2.out (by omega) _).mono ?_
  rintro e w1 ⟨rfl, g1⟩
  have v1 := Lib.hid (u1v.out.kept g1)
  have G1 := Lib.hid (grow_trans U1.out g1)
  clear g1
  go_wp2_with fail
  refine (rtakeRowG_eq H3.out (by omega) (.inl (by omega)) (by omega) (by omega) (by omega) (by omega) _).mono ?_
  rintro e w2 ⟨lv, rfl, hlv, hty, g2⟩
  have v2 := Lib.hid (v1.out.kept g2)
  have G2 := Lib.hid (grow_trans G1.out g2)
  have LV := Lib.hid (show TxT w2 lv l from TxM.ofT hlv hty)
  clear g2 hlv hty
  by_cases hz3 : z3 = 0
  case neg =>
    have t5 : ((z3 : Int) != 0) = true := by rw [bne_iff_ne]; omega
    have E := Lib.hid (Vt.take_no (s := s) (n := n) fun u hu e => by
      obtain ⟨t1, t2, t3, t4, t5, k1, k2, k3, k4, k5, k6, k7⟩ := Vt.chain hu e
      have ff := Vt.fits hu
      rw [H1.out] at k1; simp only [Prod.mk.injEq] at k1; obtain ⟨m1, rfl, _⟩ := k1
      rw [H2.out] at k2; simp only [Prod.mk.injEq] at k2; obtain ⟨m2, rfl, _⟩ := k2
      have k3' := k3 400 (.inl (by omega))
      rw [H3.out] at k3'; simp only [Prod.mk.injEq] at k3'; exact hz3 k3'.2.2)
    obtain ⟨c0, c1, c2, c3, c4, c5⟩ := v2.out.cells
    obtain ⟨f0, f1, f2, f3, f4, f5⟩ := v2.out.free
    go_wp2_with fail
    refine bodyPost_ret (v := .tuple #[vtxV 0 0 (.slice none 0 0) (.slice none 0 0) 0 0, .int .i64 3]) ?_ rfl ?_
    · obtain ⟨d0, d1, d2, d3, d4, d5⟩ := (v2.out.sets 0 0 (.slice none 0 0) (.slice none 0 0) 0 0).cells
      simp [results, Try.results46, go_sem, d0, d1, d2, d3, d4, d5]
    · rw [E.out]
      exact ⟨_, _, rfl, BtsT.nil _ _, TxT.nil _ _, below_vsets G2.out (Nat.le_refl _) _ _ _ _ _ _⟩
  subst hz3
  obtain ⟨_, b4, _, b5, _⟩ := Dg.takeRow_back _ _ _ _ _ H3.out
  have B4 := Lib.hid (show l.length ≤ 4 by omega)
  have B5 := Lib.hid (show ∀ t ∈ l, t.length ≤ 140737488351232 from fun t ht => by have := b5 t ht; omega)
  clear b4 b5
  obtain ⟨ps, s4, z5, h5⟩ : ∃ ps s4 z5, Dg.takeRow s3 64 32 = (ps, s4, z5) := ⟨_, _, _, rfl⟩
  have l4 : s4.length ≤ s3.length := by have := (Dg.takeRow_len s3 64 32).2; rw [h5] at this; exact this
  have H5 := Lib.hid h5
  clear h5
  go_wp2_with fail
  refine (rtakeRowG_eq H5.out (by omega) (.inl (by omega)) (by omega) (by omega) (by omega) (by omega) _).mono ?_
  rintro e w3 ⟨pv, rfl, hpv, hty, g3⟩
  have v3 := Lib.hid (v2.out.kept g3)
  have G3 := Lib.hid (grow_trans G2.out g3)
  have LV3 := Lib.hid (LV.out.keepT (Keeps.of g3))
  have PT3 := Lib.hid (show TxT w3 pv ps from TxM.ofT hpv hty)
  clear g3 hpv hty
  by_cases hz5 : z5 = 0
  case neg =>
    have t6 : ((z5 : Int) != 0) = true := by rw [bne_iff_ne]; omega
    have E := Lib.hid (Vt.take_no (s := s) (n := n) fun u hu e => by
      obtain ⟨t1, t2, t3, t4, t5, k1, k2, k3, k4, k5, k6, k7⟩ := Vt.chain hu e
      have ff := Vt.fits hu
      rw [H1.out] at k1; simp only [Prod.mk.injEq] at k1; obtain ⟨m1, rfl, _⟩ := k1
      rw [H2.out] at k2; simp only [Prod.mk.injEq] at k2; obtain ⟨m2, rfl, _⟩ := k2
      have k3' := k3 400 (.inl (by omega))
      rw [H3.out] at k3'; simp only [Prod.mk.injEq] at k3'; obtain ⟨rfl, rfl, _⟩ := k3'
      have k5' := k5 64 (by have := ff.n2; omega)
      rw [H5.out] at k5'; simp only [Prod.mk.injEq] at k5'; exact hz5 k5'.2.2)
    obtain ⟨c0, c1, c2, c3, c4, c5⟩ := v3.out.cells
    obtain ⟨f0, f1, f2, f3, f4, f5⟩ := v3.out.free
    go_wp2_with fail
    refine bodyPost_ret (v := .tuple #[vtxV 0 0 (.slice none 0 0) (.slice none 0 0) 0 0, .int .i64 3]) ?_ rfl ?_
    · obtain ⟨d0, d1, d2, d3, d4, d5⟩ := (v3.out.sets 0 0 (.slice none 0 0) (.slice none 0 0) 0 0).cells
      simp [results, Try.results46, go_sem, d0, d1, d2, d3, d4, d5]
    · rw [E.out]
      exact ⟨_, _, rfl, BtsT.nil _ _, TxT.nil _ _, below_vsets G3.out (Nat.le_refl _) _ _ _ _ _ _⟩
  subst hz5
  have LPS := Lib.hid (show ps.length ≤ 64 from by
    obtain ⟨_, b, _⟩ := Dg.takeRow_back _ _ _ _ _ H5.out
    omega)
  obtain ⟨x, s5, z6, h6⟩ : ∃ x s5 z6, Dg.takeNum s4 = (x, s5, z6) := ⟨_, _, _, rfl⟩
  have l5 : s5.length ≤ s4.length := by have := Dg.takeNum_rest s4; rw [h6] at this; exact this
  have H6 := Lib.hid h6
  clear h6
  go_wp2_with fail
  refine (takeN_grow H6.out (by omega) _).mono ?_
  rintro e w4 ⟨rfl, g4⟩
  have v4 := Lib.hid (v3.out.kept g4)
  have G4 := Lib.hid (grow_trans G3.out g4)
  have LV4 := Lib.hid (LV3.out.keepT (Keeps.of g4))
  have PT4 := Lib.hid (PT3.out.keepT (Keeps.of g4))
  clear g4
  by_cases hz6 : z6 = 0
  case neg =>
    have t7 : ((z6 : Int) != 0) = true := by rw [bne_iff_ne]; omega
    have E := Lib.hid (Vt.take_no (s := s) (n := n) fun u hu e => by
      obtain ⟨t1, t2, t3, t4, t5, k1, k2, k3, k4, k5, k6, k7⟩ := Vt.chain hu e
      have ff := Vt.fits hu
      rw [H1.out] at k1; simp only [Prod.mk.injEq] at k1; obtain ⟨m1, rfl, _⟩ := k1
      rw [H2.out] at k2; simp only [Prod.mk.injEq] at k2; obtain ⟨m2, rfl, _⟩ := k2
      have k3' := k3 400 (.inl (by omega))
      rw [H3.out] at k3'; simp only [Prod.mk.injEq] at k3'; obtain ⟨rfl, rfl, _⟩ := k3'
      have k5' := k5 64 (by have := ff.n2; omega)
      rw [H5.out] at k5'; simp only [Prod.mk.injEq] at k5'; obtain ⟨m5, rfl, _⟩ := k5'
      rw [H6.out] at k6; simp only [Prod.mk.injEq] at k6; exact hz6 k6.2.2)
    obtain ⟨c0, c1, c2, c3, c4, c5⟩ := v4.out.cells
    obtain ⟨f0, f1, f2, f3, f4, f5⟩ := v4.out.free
    go_wp2_with fail
    refine bodyPost_ret (v := .tuple #[vtxV 0 0 (.slice none 0 0) (.slice none 0 0) 0 0, .int .i64 3]) ?_ rfl ?_
    · obtain ⟨d0, d1, d2, d3, d4, d5⟩ := (v4.out.sets 0 0 (.slice none 0 0) (.slice none 0 0) 0 0).cells
      simp [results, Try.results46, go_sem, d0, d1, d2, d3, d4, d5]
    · rw [E.out]
      exact ⟨_, _, rfl, BtsT.nil _ _, TxT.nil _ _, below_vsets G4.out (Nat.le_refl _) _ _ _ _ _ _⟩
  subst hz6
  by_cases hx6 : x ≤ 10006
  case neg =>
    have t7 : decide (10006 < (x : Int)) = true := decide_eq_true (by omega)
    have E := Lib.hid (Vt.take_no (s := s) (n := n) fun u hu e => by
      obtain ⟨t1, t2, t3, t4, t5, k1, k2, k3, k4, k5, k6, k7⟩ := Vt.chain hu e
      have ff := Vt.fits hu
      rw [H1.out] at k1; simp only [Prod.mk.injEq] at k1; obtain ⟨m1, rfl, _⟩ := k1
      rw [H2.out] at k2; simp only [Prod.mk.injEq] at k2; obtain ⟨m2, rfl, _⟩ := k2
      have k3' := k3 400 (.inl (by omega))
      rw [H3.out] at k3'; simp only [Prod.mk.injEq] at k3'; obtain ⟨rfl, rfl, _⟩ := k3'
      have k5' := k5 64 (by have := ff.n2; omega)
      rw [H5.out] at k5'; simp only [Prod.mk.injEq] at k5'; obtain ⟨m5, rfl, _⟩ := k5'
      rw [H6.out] at k6; simp only [Prod.mk.injEq] at k6; have := ff.x2; omega)
    obtain ⟨c0, c1, c2, c3, c4, c5⟩ := v4.out.cells
    obtain ⟨f0, f1, f2, f3, f4, f5⟩ := v4.out.free
    go_wp2_with fail
    refine bodyPost_ret (v := .tuple #[vtxV 0 0 (.slice none 0 0) (.slice none 0 0) 0 0, .int .i64 3]) ?_ rfl ?_
    · obtain ⟨d0, d1, d2, d3, d4, d5⟩ := (v4.out.sets 0 0 (.slice none 0 0) (.slice none 0 0) 0 0).cells
      simp [results, Try.results46, go_sem, d0, d1, d2, d3, d4, d5]
    · rw [E.out]
      exact ⟨_, _, rfl, BtsT.nil _ _, TxT.nil _ _, below_vsets G4.out (Nat.le_refl _) _ _ _ _ _ _⟩
  have t7 : decide (10006 < (x : Int)) = false := decide_eq_false (by omega)
  have wx := wrap_small x (by omega)
  obtain ⟨y, s6, z7, h7⟩ : ∃ y s6 z7, Dg.takeNum s5 = (y, s6, z7) := ⟨_, _, _, rfl⟩
  have H7 := Lib.hid h7
  have X6 := Lib.hid hx6
  clear h7 hx6
  go_wp2_with fail
  refine (takeN_grow H7.out (by omega) _).mono ?_
  rintro e w5 ⟨rfl, g5⟩
  have v5 := Lib.hid (v4.out.kept g5)
  have G5 := Lib.hid (grow_trans G4.out g5)
  have LV5 := Lib.hid (LV4.out.keepT (Keeps.of g5))
  have PT5 := Lib.hid (PT4.out.keepT (Keeps.of g5))
  clear g5
  by_cases hz7 : z7 = 0
  case neg =>
    have t8 : ((z7 : Int) != 0) = true := by rw [bne_iff_ne]; omega
    have E := Lib.hid (Vt.take_no (s := s) (n := n) fun u hu e => by
      obtain ⟨t1, t2, t3, t4, t5, k1, k2, k3, k4, k5, k6, k7⟩ := Vt.chain hu e
      have ff := Vt.fits hu
      rw [H1.out] at k1; simp only [Prod.mk.injEq] at k1; obtain ⟨m1, rfl, _⟩ := k1
      rw [H2.out] at k2; simp only [Prod.mk.injEq] at k2; obtain ⟨m2, rfl, _⟩ := k2
      have k3' := k3 400 (.inl (by omega))
      rw [H3.out] at k3'; simp only [Prod.mk.injEq] at k3'; obtain ⟨rfl, rfl, _⟩ := k3'
      have k5' := k5 64 (by have := ff.n2; omega)
      rw [H5.out] at k5'; simp only [Prod.mk.injEq] at k5'; obtain ⟨m5, rfl, _⟩ := k5'
      rw [H6.out] at k6; simp only [Prod.mk.injEq] at k6; obtain ⟨m6, rfl, _⟩ := k6
      rw [H7.out] at k7; simp only [Prod.mk.injEq] at k7; exact hz7 k7.2.2)
    obtain ⟨c0, c1, c2, c3, c4, c5⟩ := v5.out.cells
    obtain ⟨f0, f1, f2, f3, f4, f5⟩ := v5.out.free
    go_wp2_with fail
    refine bodyPost_ret (v := .tuple #[vtxV 0 0 (.slice none 0 0) (.slice none 0 0) 0 0, .int .i64 3]) ?_ rfl ?_
    · obtain ⟨d0, d1, d2, d3, d4, d5⟩ := (v5.out.sets 0 0 (.slice none 0 0) (.slice none 0 0) 0 0).cells
      simp [results, Try.results46, go_sem, d0, d1, d2, d3, d4, d5]
    · rw [E.out]
      exact ⟨_, _, rfl, BtsT.nil _ _, TxT.nil _ _, below_vsets G5.out (Nat.le_refl _) _ _ _ _ _ _⟩
  subst hz7
  by_cases hy7 : y ≤ 10006
  case neg =>
    have t8 : decide (10006 < (y : Int)) = true := decide_eq_true (by omega)
    have E := Lib.hid (Vt.take_no (s := s) (n := n) fun u hu e => by
      obtain ⟨t1, t2, t3, t4, t5, k1, k2, k3, k4, k5, k6, k7⟩ := Vt.chain hu e
      have ff := Vt.fits hu
      rw [H1.out] at k1; simp only [Prod.mk.injEq] at k1; obtain ⟨m1, rfl, _⟩ := k1
      rw [H2.out] at k2; simp only [Prod.mk.injEq] at k2; obtain ⟨m2, rfl, _⟩ := k2
      have k3' := k3 400 (.inl (by omega))
      rw [H3.out] at k3'; simp only [Prod.mk.injEq] at k3'; obtain ⟨rfl, rfl, _⟩ := k3'
      have k5' := k5 64 (by have := ff.n2; omega)
      rw [H5.out] at k5'; simp only [Prod.mk.injEq] at k5'; obtain ⟨m5, rfl, _⟩ := k5'
      rw [H6.out] at k6; simp only [Prod.mk.injEq] at k6; obtain ⟨m6, rfl, _⟩ := k6
      rw [H7.out] at k7; simp only [Prod.mk.injEq] at k7; have := ff.y2; omega)
    obtain ⟨c0, c1, c2, c3, c4, c5⟩ := v5.out.cells
    obtain ⟨f0, f1, f2, f3, f4, f5⟩ := v5.out.free
    go_wp2_with fail
    refine bodyPost_ret (v := .tuple #[vtxV 0 0 (.slice none 0 0) (.slice none 0 0) 0 0, .int .i64 3]) ?_ rfl ?_
    · obtain ⟨d0, d1, d2, d3, d4, d5⟩ := (v5.out.sets 0 0 (.slice none 0 0) (.slice none 0 0) 0 0).cells
      simp [results, Try.results46, go_sem, d0, d1, d2, d3, d4, d5]
    · rw [E.out]
      exact ⟨_, _, rfl, BtsT.nil _ _, TxT.nil _ _, below_vsets G5.out (Nat.le_refl _) _ _ _ _ _ _⟩
  have t8 : decide (10006 < (y : Int)) = false := decide_eq_false (by omega)
  have wy := wrap_small y (by omega)
  have Y7 := Lib.hid hy7
  clear hy7
  cases s6 with
  | cons q0 qs =>
    have E := Lib.hid (Vt.take_no (s := s) (n := n) fun u hu e => by
      obtain ⟨t1, t2, t3, t4, t5, k1, k2, k3, k4, k5, k6, k7⟩ := Vt.chain hu e
      have ff := Vt.fits hu
      rw [H1.out] at k1; simp only [Prod.mk.injEq] at k1; obtain ⟨m1, rfl, _⟩ := k1
      rw [H2.out] at k2; simp only [Prod.mk.injEq] at k2; obtain ⟨m2, rfl, _⟩ := k2
      have k3' := k3 400 (.inl (by omega))
      rw [H3.out] at k3'; simp only [Prod.mk.injEq] at k3'; obtain ⟨rfl, rfl, _⟩ := k3'
      have k5' := k5 64 (by have := ff.n2; omega)
      rw [H5.out] at k5'; simp only [Prod.mk.injEq] at k5'; obtain ⟨m5, rfl, _⟩ := k5'
      rw [H6.out] at k6; simp only [Prod.mk.injEq] at k6; obtain ⟨m6, rfl, _⟩ := k6
      rw [H7.out] at k7; simp only [Prod.mk.injEq] at k7; cases k7.2.1)
    obtain ⟨c0, c1, c2, c3, c4, c5⟩ := v5.out.cells
    obtain ⟨f0, f1, f2, f3, f4, f5⟩ := v5.out.free
    go_wp2_with fail
    refine bodyPost_ret (v := .tuple #[vtxV 0 0 (.slice none 0 0) (.slice none 0 0) 0 0, .int .i64 3]) ?_ rfl ?_
    · obtain ⟨d0, d1, d2, d3, d4, d5⟩ := (v5.out.sets 0 0 (.slice none 0 0) (.slice none 0 0) 0 0).cells
      simp [results, Try.results46, go_sem, d0, d1, d2, d3, d4, d5]
    · rw [E.out]
      exact ⟨_, _, rfl, BtsT.nil _ _, TxT.nil _ _, below_vsets G5.out (Nat.le_refl _) _ _ _ _ _ _⟩
  | nil =>
  obtain ⟨al, cl, rfl⟩ := LV3.out.at.len
  obtain ⟨ap, cp, rfl⟩ := PT3.out.at.len
  clear v1 v2 v3 v4 G1 G2 G3 G4 u1v U1
  have RV := Lib.hid v5.out.lt
  have WV := Lib.hid (Nat.le_of_lt v5.out.lt)
  have ha64 := A64.out.1
  have hr64 := A64.out.2
  have hx64 := X6.out
  have hy64 := Y7.out
  have g7 : Below w5.heap.size w5 (w5.alloc (.cells #[.int .i64 a, .int .i64 r, .slice none 0 0, .slice ap ps.length cp, .int .i64 x, .int .i64 y] 27)) := (Below.refl _ _).alloc (Nat.le_refl _) _
  have L7 := Lib.hid (show LS w (w5.alloc (.cells #[.int .i64 a, .int .i64 r, .slice none 0 0, .slice ap ps.length cp, .int .i64 x, .int .i64 y] 27)) w.heap.size w5.heap.size (w5.heap.size + 1) a r x y (.slice none 0 0) (.slice ap ps.length cp) [] ps 0 from
    ⟨v5.out.kept g7, VBox.new w5 a r (.slice none 0 0) (.slice ap ps.length cp) x y, ⟨[], ⟨rfl, .inl ⟨rfl, rfl⟩⟩, trivial⟩, PT5.out.keepT (Keeps.of g7), grow_trans G5.out g7⟩)
  have LV7 := Lib.hid (LV5.out.keepT (Keeps.of g7))
  clear g7 ha64 hr64 hx64 hy64
  go_wp2_with fail
  clear LV5 PT5 LV4 PT4 LV3 PT3 LV
  simp only [wa, wrr, wx, wy]
  clear wa wrr wx wy
  go_loopw [25] (fun i wr => ∃ (k : Nat) (acc : List Bt.Bat) (bv : Value), i = .int .i64 k ∧ k ≤ l.length ∧ Vt.takeAll (l.take k) = (acc, 0) ∧ LS w wr w.heap.size w5.heap.size (w5.heap.size + 1) a r x y bv (.slice ap ps.length cp) acc ps k ∧ TxT wr (.slice al l.length cl) l ∧ w5.heap.size + 1 ≤ wr.heap.size) (fun i _ => l.length - (intOf i).toNat)
  case atStart => exact ⟨0, [], _, rfl, by omega, rfl, L7.out, LV7.out, by simp⟩
  case round =>
    obtain ⟨k, acc, bv, rfl, hk, htk, hls, hlt', hsz⟩ := hrel
    have HK := Lib.hid htk
    have HL := Lib.hid hls
    have HT := Lib.hid hlt'
    have HZ := Lib.hid hsz
    clear htk hls hlt' hsz
    by_cases hlt : k < l.length
    · have hcell : ∃ b off cap, Value.slice al l.length cl = .slice (some ⟨b, off, none⟩) l.length cap ∧ wr.cell? ⟨b, off + k, none⟩ = some (tx l[k]) := by
        rcases HT.out.at with ⟨_, _, _, e⟩ | ⟨b, off, cap, e, hc⟩
        · rw [e] at hlt; simp at hlt
        · exact ⟨b, off, cap, e, hc k hlt⟩
      obtain ⟨b, off, cap, he, c1⟩ := hcell
      injection he with he1 _ he2
      subst he1
      subst he2
      have hln := B5.out _ (List.getElem_mem hlt)
      have hl4 := B4.out
      have hstep : ∀ b, Bt.take l[k] = (b, 0) → Vt.takeAll (l.take (k + 1)) = (acc ++ [b], 0) := fun b hb => by
        rw [List.take_succ_eq_append_getElem hlt]; exact Vt.takeAll_snoc _ _ _ _ HK.out hb
      have hbad : (Bt.take l[k]).2 ≠ 0 → (Vt.takeAll l).2 ≠ 0 := fun h => Vt.takeAll_bad l k hlt h
      have HST := Lib.hid hstep
      have HBD := Lib.hid hbad
      clear hstep hbad
      generalize l[k] = t at *
      obtain ⟨⟨⟨o, q, m⟩, z⟩, hR⟩ : ∃ R, Bt.take t = R := ⟨_, rfl⟩
      have HR := Lib.hid hR
      go_wp2_with fail
      refine (rbtake_eq HR.out hln _).mono ?_
      rintro e w6 ⟨u, rfl, hu, ty, g1⟩
      have HM := Lib.hid (TxM.ofT (B := 0) hu ty)
      obtain ⟨au, cu, rfl⟩ := hu.len
      have L6 := Lib.hid (HL.out.keep g1)
      have T6 := Lib.hid (HT.out.keepT (Keeps.of g1))
      have Z6 := Lib.hid (Nat.le_trans HZ.out g1.size)
      clear g1 hu ty HL HT c1
      by_cases hz : z = 0
      · subst hz
        have HST2 := Lib.hid (HST.out _ hR)
        obtain ⟨cs, h1, h2⟩ := L6.out.bs
        have H1r := Lib.hid h1
        have H2r := Lib.hid h2
        obtain ⟨ab, cb, rfl⟩ := own_slice h1
        clear hR h1 h2
        obtain ⟨W2, hW2⟩ : ∃ W2, w6.alloc (.cells #[.int .i64 o, .int .i64 q, .slice au m.length cu] 105) = W2 := ⟨_, rfl⟩
        have HG2 := Lib.hid (show Below w6.heap.size w6 W2 by rw [← hW2]; exact (Below.refl _ _).alloc (Nat.le_refl _) _)
        have HSZ := Lib.hid (show W2.heap.size = w6.heap.size + 1 by rw [← hW2]; simp)
        have HOW := Lib.hid (own_keep H1r.out HG2.out)
        have kv2 := Lib.hid (L6.out.kv.alloc (.cells #[.int .i64 o, .int .i64 q, .slice au m.length cu] 105))
        obtain ⟨c0, c1, c2, c3, c4, c5⟩ := kv2.out.cells
        have HXW := Lib.hid hW2
        clear hW2
        go_wp2_with (at_builtin; rw [HXW.out]; refine wpList_append_own _ rfl _ _ 22 rfl (w5.heap.size + 1) 105 i0 (.agg #[.int .i64 0, .int .i64 0, .slice none 0 0]) 3 40 Try.underlying22 hi hz0 hz1 hz2 rfl (by decide) _ _ _ rfl (HOW.out.alloc _) ⟨w6.heap.size + 1, 0, none⟩ 1 1 [.int .i64 o, .int .i64 q, .slice au m.length cu] rfl rfl ?c1 ?c2 ?c3 ?c4 ?c5 ?_)
        case c1 => exact new3 W2 (w6.heap.size + 1) HSZ.out.symm _ _ _
        case c2 => intro u hu; simp at hu; rcases hu with rfl | rfl | rfl <;> rfl
        case c3 => have := B4.out; unfold maxLen; omega
        case c4 => have := B4.out; omega
        case c5 => have := Z6.out; have := HSZ.out; simp; omega
        intro v' w8 hown2 hgrow _
        have hst := LS.step (o := o) (q := q) (m := m) L6.out.kr L6.out.kv H1r.out H2r.out L6.out.pt L6.out.b (show w.heap.size < w5.heap.size + 1 from Nat.lt_succ_of_lt RV.out) (by omega) (Nat.ne_of_lt RV.out) (Nat.le_refl _) WV.out (HG2.out.alloc HG2.out.size (.cells #[.int .i64 o, .int .i64 q, .slice au m.length cu] 105)) HM.out hown2 hgrow
        have kv8 := VBox.row L6.out.kv H1r.out (by omega) (HG2.out.alloc HG2.out.size (.cells #[.int .i64 o, .int .i64 q, .slice au m.length cu] 105)) hgrow
        obtain ⟨hst1, hst2⟩ := hst
        have L9 := Lib.hid hst1
        have T9 := Lib.hid (hst2 _ _ T6.out)
        have Z9 := Lib.hid (show w5.heap.size + 1 ≤ w8.heap.size from Nat.le_trans (Nat.le_trans Z6.out (HG2.out.alloc HG2.out.size (.cells #[.int .i64 o, .int .i64 q, .slice au m.length cu] 105)).size) hgrow.size)
        obtain ⟨av, cv, rfl⟩ := own_slice hown2
        clear c0 c1 c2 c3 c4 c5 kv2
        obtain ⟨c0, c1, c2, c3, c4, c5⟩ := kv8.cells
        obtain ⟨f0, f1, f2, f3, f4, f5⟩ := kv8.free
        clear hst1 hst2 hown2 hgrow kv8 HOW HG2 HXW HSZ H1r H2r L6 T6 Z6 HM
        go_wp2
        go_roundw
        case rel => exact ⟨k + 1, _, _, by go_num, by omega, HST2.out, L9.out, T9.out, by simpa using Z9.out⟩
        case measure => simp [intOf]; omega
      · have tz : ((z : Int) != 0) = true := by rw [bne_iff_ne]; omega
        have HB2 := Lib.hid (HBD.out (by rw [hR]; exact hz))
        have v7 := Lib.hid (L6.out.kr.alloc (.cells #[.int .i64 o, .int .i64 q, .slice au m.length cu] 105))
        have G7 := Lib.hid (L6.out.b.alloc L6.out.b.size (.cells #[.int .i64 o, .int .i64 q, .slice au m.length cu] 105))
        clear hR hz
        have E := Lib.hid (Vt.take_no (s := s) (n := n) fun u hu e => by
          obtain ⟨t1, t2, t3, t4, t5, k1, k2, k3, k4, k5, k6, k7⟩ := Vt.chain hu e
          have ff := Vt.fits hu
          rw [H1.out] at k1; simp only [Prod.mk.injEq] at k1; obtain ⟨m1, rfl, _⟩ := k1
          rw [H2.out] at k2; simp only [Prod.mk.injEq] at k2; obtain ⟨m2, rfl, _⟩ := k2
          have k3' := k3 400 (.inl (by omega))
          rw [H3.out] at k3'; simp only [Prod.mk.injEq] at k3'; obtain ⟨rfl, rfl, _⟩ := k3'
          have h2 := HB2.out; rw [k4] at h2; exact h2 rfl)
        obtain ⟨c0, c1, c2, c3, c4, c5⟩ := v7.out.cells
        obtain ⟨f0, f1, f2, f3, f4, f5⟩ := v7.out.free
        go_wp2_with fail
        refine bodyPost_ret (v := .tuple #[vtxV 0 0 (.slice none 0 0) (.slice none 0 0) 0 0, .int .i64 3]) ?_ rfl ?_
        · obtain ⟨d0, d1, d2, d3, d4, d5⟩ := (v7.out.sets 0 0 (.slice none 0 0) (.slice none 0 0) 0 0).cells
          simp [results, Try.results46, go_sem, d0, d1, d2, d3, d4, d5]
        · rw [E.out]
          exact ⟨_, _, rfl, BtsT.nil _ _, TxT.nil _ _, below_vsets G7.out (Nat.le_refl _) _ _ _ _ _ _⟩
    · obtain rfl : k = l.length := by omega
      have h4 := HK.out
      rw [List.take_length] at h4
      have H4 := Lib.hid h4
      have lbs := Vt.takeAll_len l acc h4
      have LBA := Lib.hid (show acc.length ≤ 140737488351232 by have := B4.out; omega)
      have LPA := Lib.hid (show ps.length ≤ 140737488351232 by have := LPS.out; omega)
      obtain ⟨z, hz⟩ : ∃ z, Vt.may ((a : Int), (r : Int), acc, ps, (x : Int), (y : Int)) n = z := ⟨_, rfl⟩
      have hR : Vt.take s n = if z = true then (((a : Int), (r : Int), acc, ps, (x : Int), (y : Int)), 0) else Vt.none := by
        cases z with
        | true => rw [if_pos rfl]; exact Vt.take_yes hz (Vt.whole H1.out H2.out H3.out H4.out H5.out H6.out H7.out)
        | false =>
          rw [if_neg (by simp)]
          refine Vt.take_no fun u hu e => ?_
          have := Vt.only (n := n) H1.out H2.out H3.out (.inl (by omega)) H4.out H5.out (Vt.fits hu).n2 H6.out H7.out u hu e
          rw [this, hz] at hu
          cases hu
      have HZ2 := Lib.hid hz
      have E := Lib.hid hR
      obtain ⟨cs, h1, h2⟩ := HL.out.bs
      have BT := Lib.hid (BtsT.own h1 h2)
      have e2 : bv = bv := rfl
      obtain ⟨ab, cb, hbe⟩ := BT.out.at.len
      subst hbe
      obtain ⟨c0, c1, c2, c3, c4, c5⟩ := HL.out.kv.cells
      clear hz hR h4 h1 h2 lbs e2 HT
      go_wp2_with fail
      refine (rvmay_eq (v := ((a : Int), (r : Int), acc, ps, (x : Int), (y : Int))) HZ2.out _ _ _ BT.out.at HL.out.pt.at LBA.out LPA.out n1 n2).mono ?_
      rintro e w7 ⟨rfl, g3⟩
      have L7 := Lib.hid (HL.out.keep g3)
      have BT7 := Lib.hid (BT.out.keep (Keeps.of g3))
      clear c0 c1 c2 c3 c4 c5 g3
      obtain ⟨c0, c1, c2, c3, c4, c5⟩ := L7.out.kr.cells
      obtain ⟨f0, f1, f2, f3, f4, f5⟩ := L7.out.kr.free
      obtain ⟨k0, k1, k2, k3, k4, k5⟩ := L7.out.kv.cells
      cases z with
      | true =>
        have E2 := Lib.hid (E.out.trans (if_pos rfl))
        go_wp2_with fail
        refine bodyPost_ret (v := .tuple #[vtxV a r (.slice ab acc.length cb) (.slice ap ps.length cp) x y, .int .i64 0]) ?_ rfl ?_
        · obtain ⟨d0, d1, d2, d3, d4, d5⟩ := (L7.out.kr.sets a r (.slice ab acc.length cb) (.slice ap ps.length cp) x y).cells
          simp [results, Try.results46, go_sem, d0, d1, d2, d3, d4, d5]
        · rw [E2.out]
          have K := Keeps.vsets L7.out.kr a r (.slice ab acc.length cb) (.slice ap ps.length cp) x y
          exact ⟨_, _, rfl, BT7.out.keep K, L7.out.pt.keepT K, below_vsets L7.out.b (Nat.le_refl _) _ _ _ _ _ _⟩
      | false =>
        have E2 := Lib.hid (E.out.trans (if_neg (by simp)))
        go_wp2_with fail
        refine bodyPost_ret (v := .tuple #[vtxV 0 0 (.slice none 0 0) (.slice none 0 0) 0 0, .int .i64 3]) ?_ rfl ?_
        · obtain ⟨d0, d1, d2, d3, d4, d5⟩ := (L7.out.kr.sets 0 0 (.slice none 0 0) (.slice none 0 0) 0 0).cells
          simp [results, Try.results46, go_sem, d0, d1, d2, d3, d4, d5]
        · rw [E2.out]
          exact ⟨_, _, rfl, BtsT.nil _ _, TxT.nil _ _, below_vsets L7.out.b (Nat.le_refl _) _ _ _ _ _ _⟩
theorem rvtake_eq {s : List UInt8} {n : Int} {R : Vt.Vtx × Nat} (h : Vt.take s n = R) (hs : s.length ≤ 140737488351232) (n1 : -9223372036854775808 ≤ n) (n2 : n ≤ 9223372036854775807) (w : World) :
    Calls Try.prog 46 #[tx s, .int .i64 n] w (TV R w) := by subst h; exact rvtake s n hs n1 n2 w
end Go.Proofs.Ytbkpekpajeaacaa
