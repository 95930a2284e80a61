/- The program's half of digits' and batches' Take. -/
import Derived.Test.YtbkpekpajeaacaaCrABC
import Derived.Test.YtbkpekpajeaacaaGDig
import Derived.Test.YtbkpekpajeaacaaGVtx
import Derived.Test.YtbkpekpajeaacaaGBat
import Derived.Deep.QuietTactic
import Derived.BigQuiet
import Derived.Laws.BitsAllLaws
import Derived.Lib.Strings
set_option maxRecDepth 100000
namespace Go.Proofs.Ytbkpekpajeaacaa
open Go.RowKit
def TN (l : List UInt8) (w : World) (e : Ending) (w' : World) : Prop :=
  e = .returned (.tuple #[.int .u64 (Dg.takeNum l).1, tx (Dg.takeNum l).2.1, .int .i64 (Dg.takeNum l).2.2]) ∧ ∃ n, w' = w.drewN n
set_option maxHeartbeats 1000000 in
theorem takeNum_nil (w : World) : Calls Try.prog 83 #[tx []] w (TN [] w) := by
  go_enter Try.func83, Try.ntmps83
  go_wp2
  go_ret3
  exact ⟨rfl, 0, rfl⟩
set_option maxHeartbeats 1000000 in
theorem takeNum_big (b : UInt8) (r : List UInt8) (h : 8 < b.toNat) (hr : r.length ≤ 140737488351232) (w : World) : Calls Try.prog 83 #[tx (b :: r)] w (TN (b :: r) w) := by
  have hb : b.toNat < 256 := b.toNat_lt
  have hf : Dg.takeNum (b :: r) = (0, [], 3) := by simp [Dg.takeNum, h]
  have HF := Lib.hid hf
  clear hf
  go_enter Try.func83, Try.ntmps83
  go_wp2
  go_quiet (fail)
  simp only [ba_zero, ba_tail, w64_byte]
  go_wp2
  go_ret3
  exact ⟨by rw [HF.out]; rfl, _, rfl⟩
set_option maxHeartbeats 1000000 in
theorem takeNum_short (b : UInt8) (r : List UInt8) (h : b.toNat ≤ 8) (h2 : r.length < b.toNat) (hr : r.length ≤ 140737488351232) (w : World) : Calls Try.prog 83 #[tx (b :: r)] w (TN (b :: r) w) := by
  have h' : ¬ 8 < b.toNat := by omega
  have hf : Dg.takeNum (b :: r) = (0, [], 2) := by simp [Dg.takeNum, h', h2]
  have HF := Lib.hid hf
  clear hf
  go_enter Try.func83, Try.ntmps83
  go_wp2
  go_quiet (fail)
  simp only [ba_zero, ba_tail, w64_byte]
  go_wp2
  go_ret3
  exact ⟨by rw [HF.out]; rfl, _, rfl⟩
theorem head_zero (r : List UInt8) (h : 0 < r.length) : r.headD 1 = (ByteArray.mk r.toArray)[0]'h := by
  cases r with
  | nil => simp at h
  | cons b r => rfl
set_option maxHeartbeats 1000000 in
theorem takeNum_zero (b : UInt8) (r : List UInt8) (h : b.toNat ≤ 8) (h2 : b.toNat ≤ r.length) (h3 : 0 < b.toNat) (h4 : r.headD 1 = 0) (hr : r.length ≤ 140737488351232) (w : World) : Calls Try.prog 83 #[tx (b :: r)] w (TN (b :: r) w) := by
  have h' : ¬ 8 < b.toNat := by omega
  have h2' : ¬ r.length < b.toNat := by omega
  have hf : Dg.takeNum (b :: r) = (0, [], 3) := by rw [Dg.takeNum, if_neg h', if_neg h2', if_pos ⟨h3, h4⟩]
  have h0 : 0 < r.length := by omega
  have hz : ((((ByteArray.mk r.toArray)[0]'h0).toNat : Int) == 0) = true := by rw [← head_zero r h0, h4]; rfl
  have HF := Lib.hid hf
  clear hf h4
  go_enter Try.func83, Try.ntmps83
  go_wp2
  go_quiet (fail)
  simp only [ba_zero, ba_tail, w64_byte]
  go_wp2
  go_ret3
  exact ⟨by rw [HF.out]; rfl, _, rfl⟩
theorem or_byte (a : Nat) (b : UInt8) (h : a < 72057594037927936) : bits .or .u64 ((a : Int) * 256) (IntKind.u64.wrap (b.toNat : Int)) = ((a * 256 + b.toNat : Nat) : Int) := by
  have hb := b.toNat_lt
  rw [IntWalk.u64_in _ ⟨by omega, by omega⟩]
  rw [show ((a : Int) * 256) = ((a * 256 : Nat) : Int) by omega, u64_or_nat _ _ (by omega) (by omega)]
  rw [show a * 256 = 2 ^ 8 * a by omega, Nat.two_pow_add_eq_or_of_lt (by omega)]
theorem ofB_take_succ (r : List UInt8) (k : Nat) (h : k < r.length) : Dg.ofB (r.take (k + 1)) = Dg.ofB (r.take k) * 256 + r[k].toNat := by
  rw [List.take_succ_eq_append_getElem h, Dg.ofB_snoc]
theorem ofB_take_lt (r : List UInt8) (k : Nat) (h : k ≤ 7) : Dg.ofB (r.take k) < 72057594037927936 := by
  have h1 := Dg.ofB_lt (r.take k)
  have h2 : (r.take k).length ≤ 7 := by simp; omega
  have := Nat.pow_le_pow_right (n := 256) (by omega) h2
  omega
set_option maxHeartbeats 1000000 in
theorem takeNum_good (b : UInt8) (r : List UInt8) (h : b.toNat ≤ 8) (h2 : b.toNat ≤ r.length) (h3 : 0 < b.toNat) (h4 : r.headD 1 ≠ 0) (hr : r.length ≤ 140737488351232) (w : World) : Calls Try.prog 83 #[tx (b :: r)] w (TN (b :: r) w) := by
  have h' : ¬ 8 < b.toNat := by omega
  have h2' : ¬ r.length < b.toNat := by omega
  have hf : Dg.takeNum (b :: r) = (Dg.ofB (r.take b.toNat), r.drop b.toNat, 0) := by rw [Dg.takeNum, if_neg h', if_neg h2', if_neg (fun hh => h4 hh.2)]
  have h0 : 0 < r.length := by omega
  have hz : ((((ByteArray.mk r.toArray)[0]'h0).toNat : Int) == 0) = false := by
    rw [← head_zero r h0, beq_eq_false_iff_ne]
    intro hh
    exact h4 (UInt8.toNat_inj.1 (by simpa using hh))
  have HF := Lib.hid hf
  clear hf h4
  go_enter Try.func83, Try.ntmps83
  go_wp2
  go_quiet (fail)
  simp only [ba_zero, ba_tail, w64_byte]
  go_wp2
  go_loop [7, 8, 30] (fun v _ i => ∃ k : Nat, k ≤ b.toNat ∧ i = .int .i64 k ∧ v = .int .u64 (Dg.ofB (r.take k))) (fun _ _ i => b.toNat - (intOf i).toNat)
  case atStart => exact ⟨0, by omega, rfl, rfl⟩
  case round =>
    obtain ⟨k, hk, rfl, rfl⟩ := hrel
    by_cases hlt : k < b.toNat
    · have hbd := ofB_take_lt r k (by omega)
      have hkr : k < r.length := by omega
      have hs := ofB_take_succ r k hkr
      have hor := or_byte _ r[k] hbd
      have HS := Lib.hid hs
      have HO := Lib.hid hor
      clear hs hor
      go_wp2
      go_round
      case rel => exact ⟨k + 1, by omega, by go_num, by rw [HS.out, ← HO.out]; rfl⟩
      case measure => simp [intOf]; omega
    · obtain rfl : k = b.toNat := by omega
      go_wp2
      go_quiet (fail)
      simp only [ba_drop]
      go_wp2
      go_ret3
      exact ⟨by rw [HF.out]; rfl, _, by rw [World.drewN_drewN]⟩
set_option maxHeartbeats 1000000 in
theorem takeNum_none (r : List UInt8) (hr : r.length ≤ 140737488351232) (w : World) : Calls Try.prog 83 #[tx (0 :: r)] w (TN (0 :: r) w) := by
  have hf : Dg.takeNum (0 :: r) = (0, r, 0) := by simp [Dg.takeNum, Dg.ofB]
  have HF := Lib.hid hf
  clear hf
  go_enter Try.func83, Try.ntmps83
  go_wp2
  go_quiet (fail)
  simp only [ba_zero, ba_tail, w64_byte]
  go_wp2
  go_loop [7, 8, 30] (fun v _ i => i = .int .i64 0 ∧ v = .int .u64 0) (fun _ _ _ => 0)
  case atStart => exact ⟨rfl, rfl⟩
  case round =>
    obtain ⟨rfl, rfl⟩ := hrel
    go_wp2
    go_quiet (fail)
    simp only [ba_drop]
    go_wp2
    go_ret3
    exact ⟨by rw [HF.out]; rfl, _, by rw [World.drewN_drewN]⟩
theorem takeNum_any (l : List UInt8) (hl : l.length ≤ 140737488351232) (w : World) : Calls Try.prog 83 #[tx l] w (TN l w) := by
  cases l with
  | nil => exact takeNum_nil w
  | cons b r =>
    have hr : r.length ≤ 140737488351232 := by simp at hl; omega
    by_cases h1 : 8 < b.toNat
    · exact takeNum_big b r h1 hr w
    by_cases h2 : r.length < b.toNat
    · exact takeNum_short b r (by omega) h2 hr w
    by_cases h3 : 0 < b.toNat
    · by_cases h4 : r.headD 1 = 0
      · exact takeNum_zero b r (by omega) (by omega) h3 h4 hr w
      · exact takeNum_good b r (by omega) (by omega) h3 h4 hr w
    · obtain rfl : b = 0 := UInt8.toNat_inj.1 (by simp; omega)
      exact takeNum_none r hr w
end Go.Proofs.Ytbkpekpajeaacaa
namespace Go.Proofs.Ytbkpekpajeaacaa
open Go.RowKit
theorem ba_take (r : List UInt8) (k : Nat) : (ByteArray.mk r.toArray).extract 0 k = ByteArray.mk (r.take k).toArray := by
  apply ByteArray.ext
  apply Array.toList_inj.1
  rw [Lib.extract_data]
  simp
theorem takeNum_eq {l : List UInt8} {n : Nat} {r : List UInt8} {x : Nat} (h : Dg.takeNum l = (n, r, x)) (hl : l.length ≤ 140737488351232) (w : World) :
    Calls Try.prog 83 #[tx l] w fun e w' => e = .returned (.tuple #[.int .u64 n, tx r, .int .i64 x]) ∧ ∃ k, w' = w.drewN k :=
  (takeNum_any l hl w).mono fun e w' hh => by rw [TN, h] at hh; exact hh
set_option maxHeartbeats 1000000 in
theorem above_any (n : Nat) (most : Int) (h1 : -9223372036854775808 ≤ most) (h2 : most ≤ 9223372036854775807) (w : World) :
    Calls Try.prog 112 #[.int .u64 n, .int .i64 most] w fun e w' => e = .returned (.bool (Dg.above n most)) ∧ w = w' := by
  by_cases hm : most < 0
  · have ha : Dg.above n most = true := by simp [Dg.above, hm]
    have HA := Lib.hid ha
    clear ha
    go_enter Try.func112, Try.ntmps112
    go_wp2
    go_ret
    exact ⟨by rw [HA.out]; rfl, rfl⟩
  · obtain ⟨m, rfl⟩ := Int.eq_ofNat_of_zero_le (show 0 ≤ most by omega)
    by_cases hc : m < n
    · have ha : Dg.above n m = true := by simp [Dg.above, hc]
      have HA := Lib.hid ha
      clear ha
      go_enter Try.func112, Try.ntmps112
      go_wp2
      go_ret
      exact ⟨by rw [HA.out]; rfl, rfl⟩
    · have ha : Dg.above n m = false := by simp [Dg.above]; omega
      have HA := Lib.hid ha
      clear ha
      go_enter Try.func112, Try.ntmps112
      go_wp2
      go_ret
      exact ⟨by rw [HA.out]; rfl, rfl⟩
theorem above_eq {n : Nat} {most : Int} {b : Bool} (h : Dg.above n most = b) (h1 : -9223372036854775808 ≤ most) (h2 : most ≤ 9223372036854775807) (w : World) :
    Calls Try.prog 112 #[.int .u64 n, .int .i64 most] w fun e w' => e = .returned (.bool b) ∧ w = w' :=
  (above_any n most h1 h2 w).mono fun e w' hh => by rw [h] at hh; exact hh
def TT (l : List UInt8) (most : Int) (w : World) (e : Ending) (w' : World) : Prop :=
  e = .returned (.tuple #[tx (Dg.takeText l most).1, tx (Dg.takeText l most).2.1, .int .i64 (Dg.takeText l most).2.2]) ∧ ∃ n, w' = w.drewN n
set_option maxHeartbeats 1000000 in
theorem takeText_any (l : List UInt8) (most : Int) (hl : l.length ≤ 140737488351232) (h1 : -9223372036854775808 ≤ most) (h2 : most ≤ 9223372036854775807) (w : World) :
    Calls Try.prog 82 #[tx l, .int .i64 most] w (TT l most w) := by
  obtain ⟨n, r, x, ht⟩ : ∃ n r x, Dg.takeNum l = (n, r, x) := ⟨_, _, _, rfl⟩
  have hr := Dg.takeNum_rest l
  have hn := Dg.takeNum_bound l
  have hx := Dg.takeNum_err l
  rw [ht] at hr hn hx
  simp only [] at hr hn hx
  have hf : Dg.takeText l most = if x ≠ 0 then ([], [], x) else if Dg.above n most = true then ([], [], 4) else if r.length < n then ([], [], 2) else (r.take n, r.drop n, 0) := by simp only [Dg.takeText, ht]
  by_cases h0 : x = 0
  · subst h0
    cases ha : Dg.above n most with
    | true =>
      rw [if_neg (by simp), if_pos ha] at hf
      have HF := Lib.hid hf
      have HA := Lib.hid ha
      have HT := Lib.hid ht
      clear hf ha ht hx
      go_enter Try.func82, Try.ntmps82
      go_wp2_with fail
      refine (takeNum_eq HT.out hl _).mono ?_
      rintro e w1 ⟨rfl, k, rfl⟩
      go_wp2_with fail
      refine (above_eq HA.out h1 h2 _).mono ?_
      rintro e w1 ⟨rfl, rfl⟩
      go_wp2_with fail
      go_ret3
      exact ⟨by rw [HF.out]; rfl, _, rfl⟩
    | false =>
      rw [if_neg (by simp), if_neg (by simp [ha])] at hf
      have HA := Lib.hid ha
      have HT := Lib.hid ht
      clear ha ht hx
      by_cases hs : r.length < n
      · rw [if_pos hs] at hf
        have HF := Lib.hid hf
        clear hf
        go_enter Try.func82, Try.ntmps82
        go_wp2_with fail
        refine (takeNum_eq HT.out hl _).mono ?_
        rintro e w1 ⟨rfl, k, rfl⟩
        go_wp2_with fail
        refine (above_eq HA.out h1 h2 _).mono ?_
        rintro e w1 ⟨rfl, rfl⟩
        go_wp2_with fail
        go_ret3
        exact ⟨by rw [HF.out]; rfl, _, rfl⟩
      · rw [if_neg hs] at hf
        have HF := Lib.hid hf
        clear hf
        go_enter Try.func82, Try.ntmps82
        go_wp2_with fail
        refine (takeNum_eq HT.out hl _).mono ?_
        rintro e w1 ⟨rfl, k, rfl⟩
        go_wp2_with fail
        refine (above_eq HA.out h1 h2 _).mono ?_
        rintro e w1 ⟨rfl, rfl⟩
        go_wp2_with fail
        go_quiet (fail)
        simp only [ba_take, ba_drop]
        go_wp2
        go_ret3
        exact ⟨by rw [HF.out]; rfl, _, by rw [World.drewN_drewN]⟩
  · rw [if_pos h0] at hf
    have h0' : ((x : Int) != 0) = true := by rw [bne_iff_ne]; omega
    have HF := Lib.hid hf
    have HT := Lib.hid ht
    have H0 := Lib.hid h0
    clear hf ht hx h0
    go_enter Try.func82, Try.ntmps82
    go_wp2_with fail
    refine (takeNum_eq HT.out hl _).mono ?_
    rintro e w1 ⟨rfl, k, rfl⟩
    go_wp2_with fail
    go_ret3
    exact ⟨by rw [HF.out]; rfl, _, rfl⟩
theorem takeText_eq {l : List UInt8} {most : Int} {n r : List UInt8} {x : Nat} (h : Dg.takeText l most = (n, r, x)) (hl : l.length ≤ 140737488351232) (h1 : -9223372036854775808 ≤ most) (h2 : most ≤ 9223372036854775807) (w : World) :
    Calls Try.prog 82 #[tx l, .int .i64 most] w fun e w' => e = .returned (.tuple #[tx n, tx r, .int .i64 x]) ∧ ∃ k, w' = w.drewN k :=
  (takeText_any l most hl h1 h2 w).mono fun e w' hh => by rw [TT, h] at hh; exact hh
end Go.Proofs.Ytbkpekpajeaacaa
namespace Go.Proofs.Ytbkpekpajeaacaa
open Go.RowKit
theorem info_text : (Try.prog.info? 9).map (fun i => (i.zero, i.size, i.bytes)) = some (some (.string ⟨#[]⟩), 1, 16) := by kernel_rfl
/-- What a call that takes a row comes to. -/
def TR (R : Dg.Res) (w : World) (e : Ending) (w' : World) : Prop :=
  ∃ v, e = .returned (.tuple #[v, tx R.2.1, .int .i64 R.2.2]) ∧ TxAt w' v R.1 ∧ TyV w' v ∧ Below w.heap.size w w'
theorem below_own {w : World} {base n : Nat} {t : TypeId} {v : Value} {xs : List Value} (h : w.ownsRow base t 1 v n xs) (_h : base ≤ w.heap.size) (q : Nat) : (w.drewN q).ownsRow base t 1 v n xs := h
end Go.Proofs.Ytbkpekpajeaacaa
namespace Go.Proofs.Ytbkpekpajeaacaa
open Go.RowKit
set_option maxHeartbeats 1000000 in
theorem takeText_lit (l : List UInt8) (most : Int) {t r : List UInt8} {x : Nat} (h : Dg.takeText l most = (t, r, x)) (hl : l.length ≤ 140737488351232) (h1 : -9223372036854775808 ≤ most) (h2 : most ≤ 9223372036854775807) (a : Addr) (w : World)
    (hc : w.cell? a = some (.int .i64 most)) :
    Calls Try.prog 124 #[tx l, .pointer (some a)] w fun e w' => e = .returned (.tuple #[tx t, tx r, .int .i64 x]) ∧ ∃ k, w' = w.drewN k := by
  have HT := Lib.hid h
  clear h
  go_enter Try.func124, Try.ntmps124
  go_wp2_with fail
  refine (takeText_eq HT.out hl h1 h2 _).mono ?_
  rintro e w1 ⟨rfl, k, rfl⟩
  go_wp2_with fail
  go_ret3
  exact ⟨rfl, _, rfl⟩
set_option maxHeartbeats 2000000 in
theorem takeAll_any (rest : List UInt8) (n : Nat) (most : Int) (hn : n < 18446744073709551616) (hl : rest.length ≤ 140737488351232) (hs : n ≤ 4294967296 ∨ rest.length ≤ 4294967296)
    (o1 : -9223372036854775808 ≤ most) (o2 : most ≤ 9223372036854775807) (ad : Addr) (w : World) (hc : w.cell? ad = some (.int .i64 most)) :
    Calls Try.prog 123 #[tx rest, .int .u64 n, .func (Fn.func 124) #[] #[.pointer (some ad)]] w (TR (Dg.takeTexts n rest most) w) := by
  obtain ⟨i0, hi, hz0, hz1, hz2⟩ := info_parts info_text
  have HS := Lib.hid hs
  clear hs
  go_enter Try.func123, Try.ntmps123
  go_wp2_with fail
  go_loopw [0, 9, 14] (fun r v i wr => ∃ (k : Nat) (s : List UInt8) (acc : List (List UInt8)), i = .int .u64 k ∧ k ≤ n ∧ r = tx s ∧ s.length + acc.length ≤ rest.length ∧ acc.length ≤ k ∧ Below w.heap.size w wr ∧ wr.ownsRow w.heap.size 9 1 v acc.length (acc.map tx) ∧ Dg.takeTexts n rest most = Dg.glue acc (Dg.takeTexts (n - k) s most)) (fun _ _ i _ => n - (intOf i).toNat)
  case atStart => exact ⟨0, rest, [], rfl, by omega, rfl, by simp, by simp, Below.refl _ _, ⟨rfl, .inl ⟨rfl, rfl⟩⟩, by rw [Dg.glue_nil]; rfl⟩
  case round =>
    obtain ⟨k, s, acc, rfl, hk, rfl, hlen, hak, hbel, hown, hg⟩ := hrel
    have hA : acc.length ≤ 4294967296 := by rcases HS.out with h | h <;> omega
    by_cases hlt : k < n
    · obtain ⟨t, r, x, ht⟩ : ∃ t r x, Dg.takeText s most = (t, r, x) := ⟨_, _, _, rfl⟩
      obtain ⟨j, hj⟩ : ∃ j, n - k = j + 1 := ⟨n - k - 1, by omega⟩
      have hcw : wr.cell? ad = some (.int .i64 most) := below_cell hbel hc
      have hless := Dg.takeText_less s most
      rw [ht] at hless
      simp only [] at hless
      by_cases h0 : x = 0
      · subst h0
        have hless := hless rfl
        rw [hj, Dg.glue_step acc j s most ht] at hg
        have hj' : n - (k + 1) = j := by omega
        rw [← hj'] at hg
        have HX := Lib.hid ht
        have HG := Lib.hid hg
        have HO := Lib.hid hown
        have HC := Lib.hid hcw
        clear ht hj hg hj' hown hcw hc
        go_wp2_with fail
        refine (takeText_lit s most HX.out (by omega) o1 o2 ad _ HC.out).mono ?_
        rintro e w1 ⟨rfl, q2, rfl⟩
        have hsz := hbel.size
        have hown1 := (below_own HO.out hbel.size q2)
        have HO1 := Lib.hid hown1
        clear hown1
        go_wp2_with (at_builtin; refine wpList_append_own _ rfl _ _ 23 rfl w.heap.size 9 i0 (.string ⟨#[]⟩) 1 16 Try.underlying23 hi hz0 hz1 hz2 rfl (by decide) _ _ _ rfl (HO1.out.alloc _) ⟨wr.heap.size, 0, none⟩ 1 1 [tx t] rfl rfl ?c1 ?c2 ?c3 ?c4 ?c5 ?_)
        case c1 => exact new_cell _ _ rfl _ _
        case c2 => intro u hu; simp at hu; subst hu; rfl
        case c3 => unfold maxLen; omega
        case c4 => omega
        case c5 => simp; omega
        intro v' w2 hown2 hgrow _
        have hown3 : w2.ownsRow w.heap.size 9 1 v' (acc ++ [t]).length ((acc ++ [t]).map tx) := by simpa using hown2
        have hbel2 : Below w.heap.size w w2 := ((below_drewN hbel q2).alloc (by simpa using hsz) _).grown hgrow (by simp; omega) (fun k hk => (HO1.out.lt k hk).1)
        have HO3 := Lib.hid hown3
        clear hown2 hown3 hgrow HO HO1
        go_wp2
        go_roundw
        case rel => exact ⟨k + 1, r, acc ++ [t], by go_num, by omega, rfl, by simp; omega, by simp; omega, hbel2, HO3.out, HG.out⟩
        case measure => simp [intOf]; omega
      · rw [hj, Dg.glue_bad acc j s most ht h0] at hg
        have h0' : ((x : Int) != 0) = true := by rw [bne_iff_ne]; omega
        have HX := Lib.hid ht
        have HG := Lib.hid hg
        have HC := Lib.hid hcw
        clear ht hj hg hown hless h0 hcw hc
        go_wp2_with fail
        refine (takeText_lit s most HX.out (by omega) o1 o2 ad _ HC.out).mono ?_
        rintro e w1 ⟨rfl, q2, rfl⟩
        go_wp2_with fail
        go_ret3
        rw [HG.out]
        exact ⟨_, rfl, .inl ⟨_, _, rfl, rfl⟩, TyV.nil _ _ _, below_drewN hbel _⟩
    · obtain rfl : k = n := by omega
      rw [Nat.sub_self, Dg.glue_zero] at hg
      have HG := Lib.hid hg
      have HO := Lib.hid hown
      clear hg hown
      go_wp2
      go_ret3
      rw [HG.out]
      exact ⟨_, rfl, TxAt.own HO.out, TyV.own HO.out, hbel⟩
set_option maxHeartbeats 1000000 in
theorem takeRow_gen (l : List UInt8) (many most : Int) (hl : l.length ≤ 140737488351232) (hs : many ≤ 4294967296 ∨ l.length ≤ 4294967296)
    (m1 : -9223372036854775808 ≤ many) (m2 : many ≤ 9223372036854775807) (o1 : -9223372036854775808 ≤ most) (o2 : most ≤ 9223372036854775807) (w : World) :
    Calls Try.prog 108 #[tx l, .int .i64 many, .int .i64 most] w (TR (Dg.takeRow l many most) w) := by
  obtain ⟨n, r, x, ht⟩ : ∃ n r x, Dg.takeNum l = (n, r, x) := ⟨_, _, _, rfl⟩
  have hn := Dg.takeNum_bound l
  have hr := Dg.takeNum_rest l
  rw [ht] at hn hr
  simp only [] at hn hr
  have HS := Lib.hid hs
  clear hs
  by_cases hx : x = 0
  · subst hx
    cases ha : Dg.above n many with
    | true =>
      have e : Dg.takeRow l many most = ([], [], 4) := by simp [Dg.takeRow, ht, ha]
      rw [e]
      have HT := Lib.hid ht
      have HA := Lib.hid ha
      clear ht ha e
      go_enter Try.func108, Try.ntmps108
      go_wp2_with fail
      refine (takeNum_eq HT.out (by omega) _).mono ?_
      rintro e w1 ⟨rfl, q, rfl⟩
      go_wp2_with fail
      refine (above_eq HA.out m1 m2 _).mono ?_
      rintro e w1 ⟨rfl, rfl⟩
      go_wp2_with fail
      go_ret3
      exact ⟨_, rfl, .inl ⟨_, _, rfl, rfl⟩, TyV.nil _ _ _, below_drewN ((Below.refl _ _).alloc (Nat.le_refl _) _) _⟩
    | false =>
      have e : Dg.takeRow l many most = Dg.takeTexts n r most := by simp [Dg.takeRow, ht, ha]
      rw [e]
      have hs2 : n ≤ 4294967296 ∨ r.length ≤ 4294967296 := by
        have ha2 : (n : Int) ≤ many := by simp [Dg.above] at ha; omega
        rcases HS.out with h | h <;> omega
      have HS2 := Lib.hid hs2
      clear hs2
      have HT := Lib.hid ht
      have HA := Lib.hid ha
      clear ht ha e
      go_enter Try.func108, Try.ntmps108
      go_wp2_with fail
      refine (takeNum_eq HT.out (by omega) _).mono ?_
      rintro e w1 ⟨rfl, q, rfl⟩
      go_wp2_with fail
      refine (above_eq HA.out m1 m2 _).mono ?_
      rintro e w1 ⟨rfl, rfl⟩
      go_wp2_with fail
      refine (takeAll_any r n most hn (by omega) HS2.out o1 o2 ⟨w.heap.size, 0, none⟩ _ (by simp)).mono ?_
      rintro e w2 ⟨v, rfl, hv, ty, hb⟩
      have HV := Lib.hid hv
      have TY := Lib.hid ty
      clear hv ty
      go_wp2_with fail
      go_ret3
      exact ⟨_, rfl, HV.out, TY.out, grow_trans (below_drewN ((Below.refl _ _).alloc (Nat.le_refl _) _) _) hb⟩
  · have e : Dg.takeRow l many most = ([], [], x) := by simp [Dg.takeRow, ht, hx]
    rw [e]
    have h0' : ((x : Int) != 0) = true := by rw [bne_iff_ne]; omega
    have HT := Lib.hid ht
    clear ht e hx
    go_enter Try.func108, Try.ntmps108
    go_wp2_with fail
    refine (takeNum_eq HT.out (by omega) _).mono ?_
    rintro e w1 ⟨rfl, q, rfl⟩
    go_wp2_with fail
    go_ret3
    exact ⟨_, rfl, .inl ⟨_, _, rfl, rfl⟩, TyV.nil _ _ _, below_drewN ((Below.refl _ _).alloc (Nat.le_refl _) _) _⟩
theorem takeRow_any (l : List UInt8) (many most : Int) (hl : l.length ≤ 4294967296)
    (m1 : -9223372036854775808 ≤ many) (m2 : many ≤ 9223372036854775807) (o1 : -9223372036854775808 ≤ most) (o2 : most ≤ 9223372036854775807) (w : World) :
    Calls Try.prog 108 #[tx l, .int .i64 many, .int .i64 most] w (TR (Dg.takeRow l many most) w) := takeRow_gen l many most (by omega) (.inr hl) m1 m2 o1 o2 w
end Go.Proofs.Ytbkpekpajeaacaa
namespace Go.Proofs.Ytbkpekpajeaacaa
open Go.RowKit
theorem takeRowG_eq {l : List UInt8} {many most : Int} {R : Dg.Res} (h : Dg.takeRow l many most = R) (hl : l.length ≤ 140737488351232) (hs : many ≤ 4294967296 ∨ l.length ≤ 4294967296)
    (m1 : -9223372036854775808 ≤ many) (m2 : many ≤ 9223372036854775807) (o1 : -9223372036854775808 ≤ most) (o2 : most ≤ 9223372036854775807) (w : World) :
    Calls Try.prog 108 #[tx l, .int .i64 many, .int .i64 most] w (TR R w) := by subst h; exact takeRow_gen l many most hl hs m1 m2 o1 o2 w
/-- What a call that takes a batch comes to. -/
def TB (R : Bt.Bat × Nat) (w : World) (e : Ending) (w' : World) : Prop :=
  ∃ v, e = .returned (.tuple #[batV R.1.1 R.1.2.1 v, .int .i64 R.2]) ∧ TxAt w' v R.1.2.2 ∧ TyV w' v ∧ Below w.heap.size w w'
theorem may_wrap {o q : Nat} {l : List (List UInt8)} (ho : o < 18446744073709551616) (hq : q < 18446744073709551616) : Bt.may (wrap64 (o : Int), wrap64 (q : Int), l) = Bt.may ((o : Int), (q : Int), l) := by
  have key : ∀ n : Nat, n < 18446744073709551616 → wrap64 (n : Int) = (n : Int) ∨ (wrap64 (n : Int) < 1 ∧ 9223372036854775808 ≤ n) := by
    intro n hn
    rw [wrap64]; omega
  rw [Bt.may_eq, Bt.may_eq]
  rcases key o ho with e | ⟨e, e'⟩
  · rw [e]
    rcases key q hq with f | ⟨f, f'⟩
    · rw [f]
    · rw [decide_eq_false (show ¬ 1 ≤ wrap64 (q : Int) by omega), decide_eq_false (show ¬ (q : Int) ≤ 1073741824 by omega)]
      simp
  · rw [decide_eq_false (show ¬ 1 ≤ wrap64 (o : Int) by omega), decide_eq_false (show ¬ (o : Int) ≤ 64 by omega)]
    simp
theorem wrap_small (n : Nat) (h : n ≤ 9223372036854775807) : wrap64 (n : Int) = n := by rw [wrap64]; omega
set_option maxHeartbeats 2000000 in
theorem pbtake (s : List UInt8) (hs : s.length ≤ 140737488351232) (w : World) :
    Calls Try.prog 111 #[tx s] w (TB (Bt.take s) w) := by
  obtain ⟨o, a, x, h1⟩ : ∃ o a x, Dg.takeNum s = (o, a, x) := ⟨_, _, _, rfl⟩
  obtain ⟨q, b, y, h2⟩ : ∃ q b y, Dg.takeNum a = (q, b, y) := ⟨_, _, _, rfl⟩
  obtain ⟨l, c, z, h3⟩ : ∃ l c z, Dg.takeRow b 4 48 = (l, c, z) := ⟨_, _, _, rfl⟩
  have la : a.length ≤ s.length := by have := Dg.takeNum_rest s; rw [h1] at this; exact this
  have lb : b.length ≤ a.length := by have := Dg.takeNum_rest a; rw [h2] at this; exact this
  have ho : o < 18446744073709551616 := by have := Dg.takeNum_bound s; rw [h1] at this; exact this
  have hq : q < 18446744073709551616 := by have := Dg.takeNum_bound a; rw [h2] at this; exact this
  have H1 := Lib.hid h1
  have H2 := Lib.hid h2
  have H3 := Lib.hid h3
  by_cases hx : x = 0
  · subst hx
    by_cases hy : y = 0
    · subst hy
      clear h1 h2 h3
      go_enter Try.func111, Try.ntmps111
      go_wp2_with fail
      refine (takeNum_eq H1.out (by omega) _).mono ?_
      rintro e w1 ⟨rfl, k, rfl⟩
      go_wp2_with fail
      refine (takeNum_eq H2.out (by omega) _).mono ?_
      rintro e w1 ⟨rfl, k2, rfl⟩
      go_wp2_with fail
      refine (takeRowG_eq H3.out (by omega) (.inl (by omega)) (by omega) (by omega) (by omega) (by omega) _).mono ?_
      rintro e w1 ⟨v, rfl, hv, ty, hb⟩
      obtain ⟨av, cv, rfl⟩ := hv.len
      have hx0 := ((BBox.new w 0 0 (.slice none 0 0)).kept (grow_trans (grow_draws _ _) hb))
      have hbw : Below w.heap.size w w1 := grow_trans (below_drewN ((Below.refl _ _).alloc (Nat.le_refl _) _) _) hb
      have hs1 := hx0.lt
      obtain ⟨q0, q1, q2, f0, f1, f2⟩ := hx0.facts
      have hx1 := hx0.alloc (.cells #[.int .i64 (wrap64 o), .int .i64 (wrap64 q), .slice av l.length cv] 105)
      obtain ⟨r0, r1, r2, g0, g1, g2⟩ := hx1.facts
      by_cases hz : z = 0
      · subst hz
        by_cases hc : c = []
        · subst hc
          have hll : l.length ≤ 140737488351232 := by have := Dg.takeRow_len b 4 48; rw [H3.out] at this; have := this.1; simp only [] at this; omega
          have hmay := fun W h => pbmay (wrap64 o) (wrap64 q) (.slice av l.length cv) l W h hll
          rw [may_wrap ho hq] at hmay
          cases hm : Bt.may ((o : Int), (q : Int), l) with
          | true =>
            have e4 := Bt.take4 H1.out H2.out H3.out hm
            have hmm := (Bt.may_iff _).1 hm
            rw [wrap_small o (by simp only [] at hmm; omega), wrap_small q (by simp only [] at hmm; omega)] at hmay hx1
            have wo := wrap_small o (by simp only [] at hmm; omega)
            have wq := wrap_small q (by simp only [] at hmm; omega)
            rw [wo, wq] at r0 r1 r2 g0 g1 g2
            rw [hm] at hmay
            have HM := Lib.hid hmay
            have HV := Lib.hid hv
            have TY := Lib.hid ty
            have HB := Lib.hid hbw
            have HX := Lib.hid hx1
            have E4 := Lib.hid e4
            clear ty hv hb hbw hx0 hx1 e4 hmay hm hmm
            go_wp2_with fail
            refine (HM.out _ (HV.out.below ((Below.refl _ _).alloc (Nat.le_refl _) _))).mono ?_
            rintro e w2 ⟨rfl, hb2⟩
            have hx2 := (BBox.new w1 (o : Int) (q : Int) (.slice av l.length cv)).kept hb2
            have hx3 := HX.out.kept hb2
            obtain ⟨u0, u1, u2, _⟩ := hx2.facts
            obtain ⟨_, _, _, v0, v1, v2⟩ := hx3.facts
            have HX3 := Lib.hid hx3
            have HB2 := Lib.hid ((HB.out.alloc HB.out.size (.cells #[.int .i64 o, .int .i64 q, .slice av l.length cv] 105)).trans (hb2.mono (Nat.le_trans HB.out.size (by simp))))
            have HV2 := Lib.hid (HV.out.below (((Below.refl _ _).alloc (Nat.le_refl _) _).trans (hb2.mono (by simp))))
            have TY2 := Lib.hid (TY.out.below (((Below.refl _ _).alloc (Nat.le_refl _) _).trans (hb2.mono (by simp))))
            clear hx2 hx3 hb2 q0 q1 q2 f0 f1 f2 r0 r1 r2 g0 g1 g2
            go_wp2_with fail
            refine bodyPost_ret (v := .tuple #[batV o q (.slice av l.length cv), .int .i64 0]) ?_ rfl ?_
            · obtain ⟨d0, d1, d2, _⟩ := (HX3.out.set o q (.slice av l.length cv)).facts
              simp [results, Try.results111, go_sem, d0, d1, d2]
            · rw [E4.out]
              exact ⟨_, rfl, HV2.out.setB HX3.out _ _ _, ((TY2.out.set _ _ _).set _ _ _).set _ _ _, BBox.set_below HB2.out (Nat.le_refl _) _ _ _⟩
          | false =>
            have e3 := Bt.take3 H1.out H2.out H3.out (.inr (.inr hm))
            rw [hm] at hmay
            have HM := Lib.hid hmay
            have HV := Lib.hid hv
            have TY := Lib.hid ty
            have HB := Lib.hid hbw
            have HX := Lib.hid hx1
            have E3 := Lib.hid e3
            clear ty hv hb hbw hx0 hx1 e3 hmay hm
            go_wp2_with fail
            refine (HM.out _ (HV.out.below ((Below.refl _ _).alloc (Nat.le_refl _) _))).mono ?_
            rintro e w2 ⟨rfl, hb2⟩
            have hx3 := HX.out.kept hb2
            obtain ⟨_, _, _, v0, v1, v2⟩ := hx3.facts
            have HX3 := Lib.hid hx3
            have HB2 := Lib.hid ((HB.out.alloc HB.out.size (.cells #[.int .i64 (wrap64 o), .int .i64 (wrap64 q), .slice av l.length cv] 105)).trans (hb2.mono (Nat.le_trans HB.out.size (by simp))))
            clear hx3 hb2 q0 q1 q2 f0 f1 f2 r0 r1 r2 g0 g1 g2
            go_wp2_with fail
            refine bodyPost_ret (v := .tuple #[batV 0 0 (.slice none 0 0), .int .i64 3]) ?_ rfl ?_
            · obtain ⟨d0, d1, d2, _⟩ := (HX3.out.set 0 0 (.slice none 0 0)).facts
              simp [results, Try.results111, go_sem, d0, d1, d2]
            · rw [E3.out]
              exact ⟨_, rfl, .inl ⟨_, _, rfl, rfl⟩, TyV.nil _ _ _, BBox.set_below HB2.out (Nat.le_refl _) _ _ _⟩
        · have e3 := Bt.take3 H1.out H2.out H3.out (.inr (.inl hc))
          cases c with
          | nil => exact absurd rfl hc
          | cons cx ct =>
            have HV := Lib.hid hv
            have TY := Lib.hid ty
            have HB := Lib.hid hbw
            have HX := Lib.hid hx0
            have E3 := Lib.hid e3
            clear ty hv hb hc hbw hx0 hx1 e3
            go_wp2_with fail
            refine bodyPost_ret (v := .tuple #[batV 0 0 (.slice none 0 0), .int .i64 3]) ?_ rfl ?_
            · obtain ⟨d0, d1, d2, _⟩ := ((HX.out.set 0 0 (.slice none 0 0)).alloc (.cells #[.int .i64 (wrap64 o), .int .i64 (wrap64 q), .slice av l.length cv] 105)).facts
              simp [results, Try.results111, go_sem, d0, d1, d2]
            · rw [E3.out]
              exact ⟨_, rfl, .inl ⟨_, _, rfl, rfl⟩, TyV.nil _ _ _, (BBox.set_below HB.out (Nat.le_refl _) _ _ _).alloc (BBox.set_below HB.out (Nat.le_refl _) 0 0 (.slice none 0 0)).size _⟩
      · have e3 := Bt.take3 H1.out H2.out H3.out (.inl hz)
        have t1 : ((z : Int) != 0) = true := by rw [bne_iff_ne]; omega
        have HV := Lib.hid hv
        have TY := Lib.hid ty
        have HB := Lib.hid hbw
        have HX := Lib.hid hx0
        have E3 := Lib.hid e3
        clear ty hv hb hz hbw hx0 hx1 e3
        go_wp2_with fail
        refine bodyPost_ret (v := .tuple #[batV 0 0 (.slice none 0 0), .int .i64 3]) ?_ rfl ?_
        · obtain ⟨d0, d1, d2, _⟩ := ((HX.out.set 0 0 (.slice none 0 0)).alloc (.cells #[.int .i64 (wrap64 o), .int .i64 (wrap64 q), .slice av l.length cv] 105)).facts
          simp [results, Try.results111, go_sem, d0, d1, d2]
        · rw [E3.out]
          exact ⟨_, rfl, .inl ⟨_, _, rfl, rfl⟩, TyV.nil _ _ _, (BBox.set_below HB.out (Nat.le_refl _) _ _ _).alloc (BBox.set_below HB.out (Nat.le_refl _) 0 0 (.slice none 0 0)).size _⟩
    · rw [Bt.take2 h1 h2 hy]
      have h0' : ((y : Int) != 0) = true := by rw [bne_iff_ne]; omega
      clear h1 h2 h3 hy
      go_enter Try.func111, Try.ntmps111
      go_wp2_with fail
      refine (takeNum_eq H1.out (by omega) _).mono ?_
      rintro e w1 ⟨rfl, k, rfl⟩
      go_wp2_with fail
      refine (takeNum_eq H2.out (by omega) _).mono ?_
      rintro e w1 ⟨rfl, k2, rfl⟩
      go_wp2_with fail
      refine bodyPost_ret (v := .tuple #[batV 0 0 (.slice none 0 0), .int .i64 3]) (by simp [results, Try.results111, go_sem]) rfl ?_
      exact ⟨_, rfl, .inl ⟨_, _, rfl, rfl⟩, TyV.nil _ _ _, BBox.set_below (below_drewN ((Below.refl _ _).alloc (Nat.le_refl _) _) _) (Nat.le_refl _) _ _ _⟩
  · rw [Bt.take1 h1 hx]
    have h0' : ((x : Int) != 0) = true := by rw [bne_iff_ne]; omega
    clear h1 h2 h3 hx
    go_enter Try.func111, Try.ntmps111
    go_wp2_with fail
    refine (takeNum_eq H1.out (by omega) _).mono ?_
    rintro e w1 ⟨rfl, k, rfl⟩
    go_wp2_with fail
    refine bodyPost_ret (v := .tuple #[batV 0 0 (.slice none 0 0), .int .i64 3]) (by simp [results, Try.results111, go_sem]) rfl ?_
    exact ⟨_, rfl, .inl ⟨_, _, rfl, rfl⟩, TyV.nil _ _ _, BBox.set_below (below_drewN ((Below.refl _ _).alloc (Nat.le_refl _) _) _) (Nat.le_refl _) _ _ _⟩
end Go.Proofs.Ytbkpekpajeaacaa
