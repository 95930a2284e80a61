/- Package post as it landed: letters, says, ballots. -/
import Derived.Test.YtbkpekpajeaacaaGDig
import Derived.Test.YtbkpekpajeaacaaGDR
import Derived.Test.YtbkpekpajeaacaaGBat
import Derived.Test.YtbkpekpajeaacaaBlk
import Derived.Deep.RegionHeld3
namespace Po
/-- An author, a round, a voter, a digest. -/
abbrev S := Int × Int × Int × List UInt8
def named (a r : Int) (d : List UInt8) : Bool := decide (1 ≤ a ∧ a ≤ 64 ∧ 1 ≤ r ∧ r ≤ 1048576 ∧ d.length = 32)
def seat (v : Int) : Bool := decide (1 ≤ v ∧ v ≤ 64)
def nums (l : List Int) : List UInt8 := l.flatMap fun x => Dg.num x.toNat
def sayR (s : S) : List UInt8 × Nat := if named s.1 s.2.1 s.2.2.2 = true ∧ seat s.2.2.1 = true then (121 :: (nums [s.1, s.2.1, s.2.2.1] ++ s.2.2.2), 0) else ([], 1)
def ballotR (a r : Int) (d : List UInt8) : List UInt8 × Nat := if named a r d = true then (118 :: (nums [a, r] ++ d), 0) else ([], 1)
def lettered (c : UInt8) (R : List UInt8 × Nat) : List UInt8 × Nat := if R.2 = 0 then (c :: R.1, 0) else ([], R.2)
def kind (s : List UInt8) : UInt8 := s.headD 0
end Po
namespace Go.Proofs.Ytbkpekpajeaacaa
open Go.RowKit
set_option maxRecDepth 100000
attribute [local go_sem] ByteArray.mk_append_mk
abbrev sayV (s : Po.S) : Value := .agg #[.int .i64 s.1, .int .i64 s.2.1, .int .i64 s.2.2.1, tx s.2.2.2]
abbrev balV (a r : Int) (d : List UInt8) : Value := .agg #[.int .i64 a, .int .i64 r, tx d]

set_option maxHeartbeats 1000000 in
theorem pkind (s : List UInt8) (w : World) : Calls Try.prog 19 #[tx s] w fun e w' => e = .returned (.int .u8 (Po.kind s).toNat) ∧ w' = w := by
  cases s with
  | nil =>
    go_enter Try.func19, Try.ntmps19
    go_wp2
    go_ret
    exact ⟨rfl, rfl⟩
  | cons b s =>
    have t1 : ((b :: s) == []) = false := rfl
    go_enter Try.func19, Try.ntmps19
    go_wp2
    go_ret
    exact ⟨rfl, rfl⟩
set_option maxHeartbeats 1000000 in
theorem pletter104 (s : List UInt8) (hs : s.length ≤ 9223372036854775000) (w : World) : Calls Try.prog 34 #[.int .u8 104, tx s, .int .i64 0] w fun e w' => e = .returned (.tuple #[tx (104 :: s), .int .i64 0]) ∧ w' = w := by
  have e0 : Utf8.encode 104 = (⟨#[104]⟩ : ByteArray) := by kernel_rfl
  have e1 : ∀ W, (Op.stringOp .add (Utf8.encode 104) (⟨s.toArray⟩ : ByteArray)).run Try.prog W = .ok (tx (104 :: s)) W := fun W => by rw [e0]; exact cat_run [104] s (by simp; omega) W
  clear e0
  go_enter Try.func34, Try.ntmps34
  go_wp2
  go_ret2
  exact ⟨rfl, rfl⟩
set_option maxHeartbeats 1000000 in
theorem pletter99 (s : List UInt8) (hs : s.length ≤ 9223372036854775000) (w : World) : Calls Try.prog 34 #[.int .u8 99, tx s, .int .i64 0] w fun e w' => e = .returned (.tuple #[tx (99 :: s), .int .i64 0]) ∧ w' = w := by
  have e0 : Utf8.encode 99 = (⟨#[99]⟩ : ByteArray) := by kernel_rfl
  have e1 : ∀ W, (Op.stringOp .add (Utf8.encode 99) (⟨s.toArray⟩ : ByteArray)).run Try.prog W = .ok (tx (99 :: s)) W := fun W => by rw [e0]; exact cat_run [99] s (by simp; omega) W
  clear e0
  go_enter Try.func34, Try.ntmps34
  go_wp2
  go_ret2
  exact ⟨rfl, rfl⟩
set_option maxHeartbeats 1000000 in
theorem pletter121 (s : List UInt8) (hs : s.length ≤ 9223372036854775000) (w : World) : Calls Try.prog 34 #[.int .u8 121, tx s, .int .i64 0] w fun e w' => e = .returned (.tuple #[tx (121 :: s), .int .i64 0]) ∧ w' = w := by
  have e0 : Utf8.encode 121 = (⟨#[121]⟩ : ByteArray) := by kernel_rfl
  have e1 : ∀ W, (Op.stringOp .add (Utf8.encode 121) (⟨s.toArray⟩ : ByteArray)).run Try.prog W = .ok (tx (121 :: s)) W := fun W => by rw [e0]; exact cat_run [121] s (by simp; omega) W
  clear e0
  go_enter Try.func34, Try.ntmps34
  go_wp2
  go_ret2
  exact ⟨rfl, rfl⟩
set_option maxHeartbeats 1000000 in
theorem pletter118 (s : List UInt8) (hs : s.length ≤ 9223372036854775000) (w : World) : Calls Try.prog 34 #[.int .u8 118, tx s, .int .i64 0] w fun e w' => e = .returned (.tuple #[tx (118 :: s), .int .i64 0]) ∧ w' = w := by
  have e0 : Utf8.encode 118 = (⟨#[118]⟩ : ByteArray) := by kernel_rfl
  have e1 : ∀ W, (Op.stringOp .add (Utf8.encode 118) (⟨s.toArray⟩ : ByteArray)).run Try.prog W = .ok (tx (118 :: s)) W := fun W => by rw [e0]; exact cat_run [118] s (by simp; omega) W
  clear e0
  go_enter Try.func34, Try.ntmps34
  go_wp2
  go_ret2
  exact ⟨rfl, rfl⟩
set_option maxHeartbeats 1000000 in
theorem pletterE (c : Value) (s : List UInt8) (e0 : Nat) (h : e0 ≠ 0) (w : World) : Calls Try.prog 34 #[c, tx s, .int .i64 e0] w fun e w' => e = .returned (.tuple #[tx [], .int .i64 e0]) ∧ w' = w := by
  have t1 : ((e0 : Int) != 0) = true := by rw [bne_iff_ne]; omega
  clear h
  go_enter Try.func34, Try.ntmps34
  go_wp2
  go_ret2
  exact ⟨rfl, rfl⟩
theorem nums_snoc (l : List Int) (x : Int) : Po.nums (l ++ [x]) = Po.nums l ++ Dg.num x.toNat := by simp [Po.nums]
theorem nums_le (l : List Int) : (Po.nums l).length ≤ 9 * l.length := by
  induction l with
  | nil => simp [Po.nums]
  | cons x l ih =>
    have := Dg.num_len x.toNat
    simp only [Po.nums, List.flatMap_cons, List.length_append, List.length_cons] at ih ⊢
    omega

set_option maxHeartbeats 2000000 in
theorem pnums (b cap : Nat) (l : List Int) (hl : l.length ≤ 100) (hx : ∀ x ∈ l, 0 ≤ x ∧ x ≤ 9223372036854775807) (w : World) (hc : ∀ k (h : k < l.length), w.cell? ⟨b, k, none⟩ = some (iv l[k])) :
    Calls Try.prog 39 #[.slice (some ⟨b, 0, none⟩) l.length cap] w fun e w' => e = .returned (tx (Po.nums l)) ∧ Below w.heap.size w w' := by
  have HX := Lib.hid hx
  have HC := Lib.hid hc
  clear hx hc
  go_enter Try.func39, Try.ntmps39
  go_wp2_with fail
  go_loopw [3, 8] (fun s i wr => ∃ k : Nat, i = .int .i64 k ∧ k ≤ l.length ∧ s = tx (Po.nums (l.take k)) ∧ Below w.heap.size w wr) (fun _ i _ => l.length - (intOf i).toNat)
  case atStart => exact ⟨0, rfl, by omega, rfl, Below.refl _ _⟩
  case round =>
    obtain ⟨k, rfl, hk, rfl, hbel⟩ := hrel
    have HB := Lib.hid hbel
    clear hbel
    by_cases hlt : k < l.length
    · have ck := below_cell HB.out (HC.out k hlt)
      obtain ⟨h0, h1⟩ := HX.out _ (List.getElem_mem hlt)
      obtain ⟨x, hxe⟩ : ∃ x, l[k] = x := ⟨_, rfl⟩
      rw [hxe] at ck h0 h1
      simp only [iv] at ck
      obtain ⟨d, hd⟩ : ∃ d, Dg.num x.toNat = d := ⟨_, rfl⟩
      have HN := Lib.hid (bnum_eq h0 h1 hd)
      have hdl : d.length ≤ 9 := by rw [← hd]; exact Dg.num_len _
      have hnl := nums_le (l.take k)
      rw [List.length_take] at hnl
      obtain ⟨s, hs⟩ : ∃ s, Po.nums (l.take k) = s := ⟨_, rfl⟩
      have HS := Lib.hid (show Po.nums (l.take (k + 1)) = s ++ d by rw [List.take_succ_eq_append_getElem hlt, nums_snoc, hs, hxe, hd])
      rw [hs] at hnl ⊢
      have e1 := fun W => cat_run s d (by omega) W
      clear hd hs hxe
      go_wp2_with fail
      refine (HN.out _).mono ?_
      rintro e w1 ⟨rfl, g1⟩
      have B1 := Lib.hid (grow_trans HB.out g1)
      clear g1
      go_wp2
      go_roundw
      case rel => exact ⟨k + 1, by go_num, hlt, by rw [HS.out], B1.out⟩
      case measure => simp [intOf]; omega
    · obtain rfl : k = l.length := by omega
      rw [List.take_length]
      go_wp2
      go_ret
      exact ⟨rfl, HB.out⟩

set_option maxHeartbeats 1000000 in
theorem pseat (v : Int) (w : World) : Calls Try.prog 74 #[.int .i64 v] w fun e w' => e = .returned (.bool (Po.seat v)) ∧ w' = w := by
  by_cases h1 : 1 ≤ v
  · by_cases h2 : v ≤ 64
    · rw [show Po.seat v = true from decide_eq_true ⟨h1, h2⟩]
      have t1 : decide (1 ≤ v) = true := decide_eq_true h1
      have t2 : decide (v ≤ 64) = true := decide_eq_true h2
      go_enter Try.func74, Try.ntmps74
      go_wp2
      go_ret
      exact ⟨rfl, rfl⟩
    · rw [show Po.seat v = false from decide_eq_false (fun h => h2 h.2)]
      have t1 : decide (1 ≤ v) = true := decide_eq_true h1
      have t2 : decide (v ≤ 64) = false := decide_eq_false h2
      go_enter Try.func74, Try.ntmps74
      go_wp2
      go_ret
      exact ⟨rfl, rfl⟩
  · rw [show Po.seat v = false from decide_eq_false (fun h => h1 h.1)]
    have t1 : decide (1 ≤ v) = false := decide_eq_false h1
    go_enter Try.func74, Try.ntmps74
    go_wp2
    go_ret
    exact ⟨rfl, rfl⟩
theorem pseat_eq {v : Int} {r : Bool} (h : Po.seat v = r) (w : World) : Calls Try.prog 74 #[.int .i64 v] w fun e w' => e = .returned (.bool r) ∧ w' = w := h ▸ pseat v w

set_option maxHeartbeats 1000000 in
theorem pmayBallot (a r : Int) (d : List UInt8) (w : World) : Calls Try.prog 42 #[balV a r d] w fun e w' => e = .returned (.bool (Po.named a r d)) ∧ Below w.heap.size w w' := by
  have A0 := Blk.new w 47 [.int .i64 a, .int .i64 r, tx d]
  have HG := Lib.hid (show Below w.heap.size w (w.alloc (.cells #[.int .i64 a, .int .i64 r, tx d] 47)) from (Below.refl _ _).alloc (Nat.le_refl _) _)
  have c0 := A0.cell 0 rfl
  have c1 := A0.cell 1 rfl
  have c2 := A0.cell 2 rfl
  obtain ⟨z, hz⟩ : ∃ z, Po.seat a = z := ⟨_, rfl⟩
  have HS := Lib.hid (pseat_eq hz)
  obtain ⟨m, hm⟩ : ∃ m, Po.named a r d = m := ⟨_, rfl⟩
  have HM := Lib.hid hm
  have hsa : z = decide (1 ≤ a ∧ a ≤ 64) := by rw [← hz]; rfl
  cases z with
  | false =>
    have E := Lib.hid (show Po.named a r d = false from decide_eq_false (fun h => of_decide_eq_false hsa.symm ⟨h.1, h.2.1⟩))
    clear hz hm hsa A0
    go_enter Try.func42, Try.ntmps42
    go_wp2_with fail
    refine (HS.out _).mono ?_
    rintro e w1 ⟨rfl, rfl⟩
    go_wp2
    go_ret
    exact ⟨by rw [E.out]; rfl, HG.out⟩
  | true =>
    have ha := of_decide_eq_true hsa.symm
    by_cases h1 : 1 ≤ r
    · have t1 : decide (1 ≤ r) = true := decide_eq_true h1
      by_cases h2 : r ≤ 1048576
      · have t2 : decide (r ≤ 1048576) = true := decide_eq_true h2
        by_cases h3 : d.length = 32
        · have E := Lib.hid (show Po.named a r d = true from decide_eq_true ⟨ha.1, ha.2, h1, h2, h3⟩)
          have t3 : ((d.length : Int) == 32) = true := by rw [beq_iff_eq]; omega
          clear hz hm hsa A0
          go_enter Try.func42, Try.ntmps42
          go_wp2_with fail
          refine (HS.out _).mono ?_
          rintro e w1 ⟨rfl, rfl⟩
          go_wp2
          go_ret
          exact ⟨by rw [E.out]; rfl, HG.out⟩
        · have E := Lib.hid (show Po.named a r d = false from decide_eq_false (fun h => h3 h.2.2.2.2))
          have t3 : ((d.length : Int) == 32) = false := by rw [beq_eq_false_iff_ne]; omega
          clear hz hm hsa A0 h3
          go_enter Try.func42, Try.ntmps42
          go_wp2_with fail
          refine (HS.out _).mono ?_
          rintro e w1 ⟨rfl, rfl⟩
          go_wp2
          go_ret
          exact ⟨by rw [E.out]; rfl, HG.out⟩
      · have E := Lib.hid (show Po.named a r d = false from decide_eq_false (fun h => h2 h.2.2.2.1))
        have t2 : decide (r ≤ 1048576) = false := decide_eq_false h2
        clear hz hm hsa A0
        go_enter Try.func42, Try.ntmps42
        go_wp2_with fail
        refine (HS.out _).mono ?_
        rintro e w1 ⟨rfl, rfl⟩
        go_wp2
        go_ret
        exact ⟨by rw [E.out]; rfl, HG.out⟩
    · have E := Lib.hid (show Po.named a r d = false from decide_eq_false (fun h => h1 h.2.2.1))
      have t1 : decide (1 ≤ r) = false := decide_eq_false h1
      clear hz hm hsa A0
      go_enter Try.func42, Try.ntmps42
      go_wp2_with fail
      refine (HS.out _).mono ?_
      rintro e w1 ⟨rfl, rfl⟩
      go_wp2
      go_ret
      exact ⟨by rw [E.out]; rfl, HG.out⟩
theorem pmayBallot_eq {a r : Int} {d : List UInt8} {z : Bool} (h : Po.named a r d = z) (w : World) : Calls Try.prog 42 #[balV a r d] w fun e w' => e = .returned (.bool z) ∧ Below w.heap.size w w' := h ▸ pmayBallot a r d w

set_option maxHeartbeats 1000000 in
theorem pmaySay (a r v : Int) (d : List UInt8) (w : World) : Calls Try.prog 38 #[sayV (a, r, v, d)] w fun e w' => e = .returned (.bool (Po.named a r d && Po.seat v)) ∧ Below w.heap.size w w' := by
  have A0 := Lib.hid (Blk.new w 30 [.int .i64 a, .int .i64 r, .int .i64 v, tx d])
  have HG := Lib.hid (show Below w.heap.size w (w.alloc (.cells #[.int .i64 a, .int .i64 r, .int .i64 v, tx d] 30)) from (Below.refl _ _).alloc (Nat.le_refl _) _)
  have c0 := A0.out.cell 0 rfl
  have c1 := A0.out.cell 1 rfl
  have c2 := A0.out.cell 2 rfl
  have c3 := A0.out.cell 3 rfl
  obtain ⟨z, hz⟩ : ∃ z, Po.named a r d = z := ⟨_, rfl⟩
  obtain ⟨y, hy⟩ : ∃ y, Po.seat v = y := ⟨_, rfl⟩
  rw [hz, hy]
  have HM := Lib.hid (pmayBallot_eq hz)
  have HS := Lib.hid (pseat_eq hy)
  clear hz hy
  go_enter Try.func38, Try.ntmps38
  go_wp2_with fail
  refine (HM.out _).mono ?_
  rintro e w1 ⟨rfl, g1⟩
  have A1 := Lib.hid (A0.out.kept g1)
  have G1 := Lib.hid (HG.out.trans (g1.mono (by simp)))
  clear g1 c0 c1 c2 c3
  have c2 := A1.out.cell 2 rfl
  cases z with
  | false =>
    go_wp2
    go_ret
    exact ⟨rfl, G1.out⟩
  | true =>
    go_wp2_with fail
    refine (HS.out _).mono ?_
    rintro e w2 ⟨rfl, rfl⟩
    go_wp2
    go_ret
    exact ⟨rfl, G1.out⟩
theorem pmaySay_eq {a r v : Int} {d : List UInt8} {z : Bool} (h : (Po.named a r d && Po.seat v) = z) (w : World) : Calls Try.prog 38 #[sayV (a, r, v, d)] w fun e w' => e = .returned (.bool z) ∧ Below w.heap.size w w' := h ▸ pmaySay a r v d w
end Go.Proofs.Ytbkpekpajeaacaa
