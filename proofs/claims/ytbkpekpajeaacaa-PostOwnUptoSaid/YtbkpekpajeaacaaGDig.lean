/- DigMath, Base, DigNum, DigText, DigOrd, Txs, DigRows, Grow, Open, OpenOne, DigTexts, Builder, DigRow, DigInv, OpenTxs, OpenTxs2, in one. -/
import Derived.Test.YtbkpekpajeaacaaRows
import Derived.WalkKit
import Derived.WalkSmall
import Derived.WalkSpells
import Derived.WalkLawsBesides
import Derived.Laws.BytesArg
import Derived.Lib.Hide
import Derived.Deep.QuietTactic
import Derived.BigQuiet
import Derived.Lib.Strings
import Derived.ScopeJumps
import Derived.SizedLaws
import Derived.ProofKit
import Derived.OpenShut
import Derived.ChangeArms
import Derived.Shelf.Strings.Builder1
import Derived.SliceStrings
import Derived.Lib.SmallJoins
section
/- The plain functions of layer 1 (digits), as lists of bytes, and what they come to. No program is named here. -/
namespace Dg

/-- The bytes of a number, the highest first, none ahead that is 0; 'k' bounds how many. -/
def bytesF : Nat → Nat → List UInt8
  | 0, _ => []
  | k + 1, v => if v = 0 then [] else bytesF k (v / 256) ++ [UInt8.ofNat (v % 256)]
def bytes (v : Nat) : List UInt8 := bytesF 8 v
def num (v : Nat) : List UInt8 := UInt8.ofNat (bytes v).length :: bytes v

theorem bytesF_len (k v : Nat) : (bytesF k v).length ≤ k := by
  induction k generalizing v with
  | zero => simp [bytesF]
  | succ k ih =>
    unfold bytesF
    split
    · simp
    · simp; have := ih (v / 256); omega

theorem bytesF_zero (k : Nat) : bytesF k 0 = [] := by cases k <;> simp [bytesF]

/-- Once enough, more fuel changes nothing. -/
theorem bytesF_more (k v : Nat) (h : v < 256 ^ k) : bytesF (k + 1) v = bytesF k v := by
  induction k generalizing v with
  | zero => simp at h; subst h; simp [bytesF]
  | succ k ih =>
    rw [bytesF]
    conv => rhs; rw [bytesF]
    split
    · rfl
    · rw [ih (v / 256)]
      rw [Nat.pow_succ] at h
      omega

theorem bytesF_step (k v : Nat) (h0 : v ≠ 0) : bytesF (k + 1) v = bytesF k (v / 256) ++ [UInt8.ofNat (v % 256)] := by
  rw [bytesF, if_neg h0]

theorem bytes_len (v : Nat) : (bytes v).length ≤ 8 := bytesF_len 8 v

theorem num_len (v : Nat) : (num v).length ≤ 9 := by have := bytes_len v; simp [num]; omega

theorem pow_bound (k m : Nat) (hk : k ≤ 8) (h : m < 256 ^ k) : m < 18446744073709551616 := by
  have := Nat.pow_le_pow_right (n := 256) (by omega) hk
  omega

/-- The number that a row of bytes tells, the highest first. -/
def ofB (l : List UInt8) : Nat := l.foldl (fun v b => v * 256 + b.toNat) 0
/-- What 'TakeNum' answers: the number, the rest, the error. -/
def takeNum : List UInt8 → Nat × List UInt8 × Nat
  | [] => (0, [], 2)
  | b :: r => if 8 < b.toNat then (0, [], 3) else if r.length < b.toNat then (0, [], 2) else if 0 < b.toNat ∧ r.headD 1 = 0 then (0, [], 3) else (ofB (r.take b.toNat), r.drop b.toNat, 0)

theorem ofB_snoc (l : List UInt8) (b : UInt8) : ofB (l ++ [b]) = ofB l * 256 + b.toNat := by simp [ofB]
theorem ofB_lt (l : List UInt8) : ofB l < 256 ^ l.length := by
  suffices h : ∀ n (l : List UInt8), l.length = n → ofB l < 256 ^ n from h _ _ rfl
  intro n
  induction n with
  | zero => intro l hl; simp at hl; subst hl; simp [ofB]
  | succ n ih =>
    intro l hl
    rcases List.eq_nil_or_concat l with rfl | ⟨l', b, rfl⟩
    · simp at hl
    · rw [List.concat_eq_append, ofB_snoc]
      have := ih l' (by simp at hl; omega)
      have := b.toNat_lt
      rw [Nat.pow_succ]; omega

theorem takeNum_rest (l : List UInt8) : (takeNum l).2.1.length ≤ l.length := by
  cases l with
  | nil => simp [takeNum]
  | cons b r =>
    rw [takeNum]
    split
    · simp
    · split
      · simp
      · split
        · simp
        · simp; omega
theorem takeNum_bound (l : List UInt8) : (takeNum l).1 < 18446744073709551616 := by
  cases l with
  | nil => simp [takeNum]
  | cons b r =>
    rw [takeNum]
    split
    · simp
    · split
      · simp
      · split
        · simp
        · have h1 := ofB_lt (r.take b.toNat)
          have := Nat.pow_le_pow_right (n := 256) (by omega) (show (r.take b.toNat).length ≤ 8 by simp; omega)
          show ofB (r.take b.toNat) < _
          omega
theorem takeNum_err (l : List UInt8) : (takeNum l).2.2 = 0 ∨ (takeNum l).2.2 = 2 ∨ (takeNum l).2.2 = 3 := by
  cases l with
  | nil => simp [takeNum]
  | cons b r =>
    rw [takeNum]
    split
    · simp
    · split
      · simp
      · split <;> simp

/-- Is a number above a bound that may be negative? -/
def above (n : Nat) (most : Int) : Bool := decide (most < 0 ∨ most < (n : Int))
/-- What 'TakeText' answers: the text, the rest, the error. -/
def takeText (l : List UInt8) (most : Int) : List UInt8 × List UInt8 × Nat :=
  if (takeNum l).2.2 ≠ 0 then ([], [], (takeNum l).2.2) else if above (takeNum l).1 most = true then ([], [], 4) else if (takeNum l).2.1.length < (takeNum l).1 then ([], [], 2)
  else ((takeNum l).2.1.take (takeNum l).1, (takeNum l).2.1.drop (takeNum l).1, 0)

theorem takeText_rest (l : List UInt8) (most : Int) : (takeText l most).2.1.length ≤ l.length := by
  have := takeNum_rest l
  unfold takeText
  split
  · simp
  · split
    · simp
    · split
      · simp
      · simp; omega

end Dg
end
section
/- What all walks have in common: texts as values, worlds that only grow, slices whose elements are read. -/
namespace Go.Proofs.Ytbkpekpajeaacaa
open Go.RowKit

def bv (y : UInt8) : Value := .int .u8 (y.toNat : Int)
/-- A text as a value. -/
abbrev tx (l : List UInt8) : Value := .string ⟨l.toArray⟩

theorem strOfNums_bytes (l : List UInt8) : strOfNums (l.map fun y => (y.toNat : Int)) = ⟨l.toArray⟩ := by
  unfold strOfNums
  congr 2
  rw [List.map_map]
  conv => rhs; rw [← List.map_id l]
  apply List.map_congr_left
  intro x _
  simp

theorem grow_trans {a b c : World} (h : Below a.heap.size a b) (k : Below b.heap.size b c) : Below a.heap.size a c := h.trans (k.mono h.size)
theorem grow_draws (a : World) (n : Nat) : Below a.heap.size a (a.drewN n) := below_drewN (Below.refl _ _) n
theorem drewN_ex {w W : World} (h : ∃ n, W = w.drewN n) (k : Nat) : ∃ n, W.drewN k = w.drewN n := by obtain ⟨n, rfl⟩ := h; exact ⟨_, by rw [World.drewN_drewN]⟩

theorem below_cell {w w' : World} (h : Below w.heap.size w w') {a : Addr} {v : Value} (hc : w.cell? a = some v) : w'.cell? a = some v :=
  (h.cell (World.block_lt_of_cell? w a hc)).trans hc

/-- A new block of one cell. -/
theorem new_cell (W : World) (n : Nat) (hn : n = W.heap.size) (v : Value) (t : TypeId) : ∀ j u, [v][j]? = some u → (W.alloc (.cells #[v] t)).cell? ((⟨n, 0, none⟩ : Addr).add j) = some u := by
  intro j u hj
  match j, hj with
  | 0, hj =>
    simp at hj
    subst hj hn
    simp [Addr.add, World.cell?_alloc_at]

/-- The slice v holds the cells cs in the world w, k cells an element. -/
def FlatAt (w : World) (v : Value) (k : Nat) (cs : List Value) : Prop :=
  (∃ a cap, v = .slice a 0 cap ∧ cs = []) ∨ ∃ b off n cap, v = .slice (some ⟨b, off, none⟩) n cap ∧ cs.length = n * k ∧ ∀ i (h : i < cs.length), w.cell? ⟨b, off + i, none⟩ = some cs[i]

theorem FlatAt.below {w w' : World} {v : Value} {k : Nat} {cs : List Value} (h : FlatAt w v k cs) (hb : Below w.heap.size w w') : FlatAt w' v k cs := by
  rcases h with h | ⟨b, off, n, cap, hv, hl, hc⟩
  · exact .inl h
  · exact .inr ⟨b, off, n, cap, hv, hl, fun i hi => below_cell hb (hc i hi)⟩

theorem FlatAt.len {w : World} {v : Value} {k n : Nat} {cs : List Value} (h : FlatAt w v k cs) (hn : cs.length = n * k) (hk : 0 < k) : ∃ a cap, v = .slice a n cap := by
  rcases h with ⟨a, cap, rfl, rfl⟩ | ⟨b, off, m, cap, rfl, hl, _⟩
  · have : n = 0 := by
      rcases Nat.eq_zero_or_pos n with h | h
      · exact h
      · have := Nat.mul_pos h hk; simp at hn; omega
    subst this
    exact ⟨_, _, rfl⟩
  · have : m = n := Nat.eq_of_mul_eq_mul_right hk (by rw [← hl, hn])
    subst this
    exact ⟨_, _, rfl⟩

/-- Where there is an element, the slice's address is plain, and its cells are at hand. -/
theorem FlatAt.at {w : World} {v : Value} {k n : Nat} {cs : List Value} (h : FlatAt w v k cs) (hn : cs.length = n * k) (hk : 0 < k) (h0 : 0 < n) :
    ∃ b off cap, v = .slice (some ⟨b, off, none⟩) n cap ∧ ∀ i (h : i < cs.length), w.cell? ⟨b, off + i, none⟩ = some cs[i] := by
  rcases h with ⟨a, cap, rfl, rfl⟩ | ⟨b, off, m, cap, rfl, hl, hc⟩
  · have := Nat.mul_pos h0 hk; simp at hn; omega
  · have : m = n := Nat.eq_of_mul_eq_mul_right hk (by rw [← hl, hn])
    subst this
    exact ⟨_, _, _, rfl, hc⟩

theorem FlatAt.own {w : World} {base n k : Nat} {t : TypeId} {v : Value} {cs : List Value} (h : w.ownsRow base t k v n cs) : FlatAt w v k cs := by
  obtain ⟨hl, h⟩ := h
  rcases h with ⟨rfl, rfl⟩ | ⟨g, cap, cur, rfl, _, hg, _, _, _, ht⟩
  · exact .inl ⟨_, _, rfl, List.length_eq_zero_iff.1 (by rw [hl]; simp)⟩
  · refine .inr ⟨g, 0, n, cap, rfl, hl, fun i hi => ?_⟩
    have e : (cur.toList.take (n * k))[i]? = some cs[i] := by rw [ht]; simp [hi]
    rw [List.getElem?_take_of_lt (by omega)] at e
    simp only [World.cell?, hg, Nat.zero_add]
    simpa using e

/-- Numbers, and lists of them, as values. -/
def iv (n : Int) : Value := .int .i64 n
def ints (l : List Int) : List Value := l.map iv
theorem ints_len (l : List Int) : (ints l).length = l.length * 1 := by simp [ints]
theorem ints_at (l : List Int) (k : Nat) (h : k < l.length) : (ints l)[k]'(by simpa [ints] using h) = iv l[k] := by simp [ints]
/-- A list of numbers, opened. -/
theorem flat_ints {w w' : World} {s : Value} {l : List Int} (h : FlatAt w s 1 (ints l)) (hb : Below w.heap.size w w') :
    (l = [] ∧ ∃ a cap, s = .slice a 0 cap) ∨ (0 < l.length ∧ ∃ b off cap, s = .slice (some ⟨b, off, none⟩) l.length cap ∧ ∀ k (hk : k < l.length), w'.cell? ⟨b, off + k, none⟩ = some (iv l[k])) := by
  by_cases h0 : l.length = 0
  · have e : l = [] := List.length_eq_zero_iff.1 h0
    obtain ⟨a, cap, rfl⟩ := h.len (n := l.length) (ints_len l) (by omega)
    subst e
    exact .inl ⟨rfl, _, _, rfl⟩
  · obtain ⟨b, off, cap, rfl, hc⟩ := h.at (n := l.length) (ints_len l) (by omega) (by omega)
    refine .inr ⟨by omega, b, off, cap, rfl, fun k hk => ?_⟩
    have := below_cell hb (hc k (by rw [ints_len]; omega))
    rw [this, ints_at l k hk]

/-- The bytes of a text. -/
theorem ba_zero (b : UInt8) (r : List UInt8) (h : 0 < (ByteArray.mk (b :: r).toArray).size) : (ByteArray.mk (b :: r).toArray)[0]'h = b := rfl
theorem ba_tail (b : UInt8) (r : List UInt8) : (ByteArray.mk (b :: r).toArray).extract 1 (r.length + 1) = ByteArray.mk r.toArray := by
  apply ByteArray.ext
  apply Array.toList_inj.1
  rw [Lib.extract_data]
  simp
theorem ba_drop (r : List UInt8) (k : Nat) : (ByteArray.mk r.toArray).extract k r.length = ByteArray.mk (r.drop k).toArray := by
  apply ByteArray.ext
  apply Array.toList_inj.1
  rw [Lib.extract_data]
  simp [List.take_of_length_le]
theorem w64_byte (b : UInt8) : wrap64 (b.toNat : Int) = (b.toNat : Int) := by have := b.toNat_lt; unfold wrap64; omega
theorem byte_at (r : List UInt8) (k : Nat) (h : k < r.length) : (ByteArray.mk r.toArray)[k]'h = r[k] := rfl

end Go.Proofs.Ytbkpekpajeaacaa
end
section
/- The contracts of Num and Text, in the program's own text. -/
namespace Go.Proofs.Ytbkpekpajeaacaa
open Go.RowKit

/-- 'string(b[at:])' of a block of the call's own. -/
theorem conv_tail (w : World) (ys : List UInt8) (at' : Nat) (h : at' ≤ ys.length) (t : TypeId) (l c : Nat) (hl : l = ys.length - at') :
    (convert 79 9 (.slice (some ⟨w.heap.size, at', none⟩) l c)).run Try.prog (w.alloc (.cells (ys.map bv).toArray t)) = .ok (tx (ys.drop at')) (w.alloc (.cells (ys.map bv).toArray t)) := by
  subst hl
  rw [run_convert_bytes_arg (P := Try.prog) (w.alloc (.cells (ys.map bv).toArray t)) 79 5 Try.underlying79 Try.underlying5 w.heap.size at' (ys.length - at') c ((ys.drop at').map fun y => (y.toNat : Int)) (by simp) (fun i hi => by
    rw [World.cell?_alloc_at _ _ _ _ rfl]
    simp [List.getD, bv]
    rw [List.getElem?_eq_getElem (by omega)]
    simp) 9 Try.underlying9, strOfNums_bytes]

theorem set_bv (ys : List UInt8) (i : Nat) (m : Nat) : (ys.map bv).set i (.int .u8 ((m : Int) % 256)) = (ys.set i (UInt8.ofNat (m % 256))).map bv := by
  simp [List.map_set, bv]

theorem cell_bv (ys : List UInt8) (i : Nat) (h : i < ys.length) : ((ys.map bv).toArray)[i]? = some (bv (ys.getD i 0)) := by
  simp [List.getD, List.getElem?_eq_getElem h]

/-- 'b[at:]' of an array of nine. -/
theorem slice_nine (b : Nat) (at' : Nat) (h : at' ≤ 8) (w : World) : (Instr.sliceAt 134 (.pointer (some ⟨b, 0, none⟩)) (some (.int .i64 at')) none none).run Try.prog w = .ok (.slice (some ⟨b, at', none⟩) (9 - at') (9 - at')) w := by
  have hl : Try.prog.arrayLen 134 = 9 := by kernel_rfl
  have hz : ∀ w, (Go.sizeOf (Try.prog.elem 134)).run Try.prog w = .ok 1 w := fun _ => by kernel_rfl
  rw [run_sliceAt_array_l w 134 ⟨b, 0, none⟩ (by kernel_rfl) .i64 at' (by omega) (by rw [hl]; omega), hl, hz]
  have hne : ¬ 9 = at' := by omega
  by_cases h0 : at' = 0
  · subst h0
    simp [Result.andThen, slicedAt, Addr.add]
  · simp [Result.andThen, slicedAt, Addr.add, hne, h0]

theorem set_len (ys : List UInt8) (i : Nat) (h : i ≤ 8) : (ys.map bv).set i (.int .u8 (8 - (i : Int))) = (ys.set i (UInt8.ofNat (8 - i))).map bv := by
  rw [List.map_set]
  congr 1
  simp [bv, UInt8.toNat_ofNat']
  omega

set_option maxHeartbeats 1000000 in
set_option maxRecDepth 100000 in
theorem num_any (n : Nat) (hn : n < 18446744073709551616) (w : World) :
    Calls Try.prog 65 #[.int .u64 n] w fun e w' => e = .returned (tx (Dg.num n)) ∧ Below w.heap.size w w' := by
  go_enter Try.func65, Try.ntmps65
  go_wp2_with fail
  refine wp_scope_jumps 0 (fun a' w' => ∃ (m at' : Nat) (ys : List UInt8) (u5 u6 u7 u8 u9 u10 u11 u12 u13 u14 : Value), a' = { tmps := #[.int .u64 m, undef, .string ⟨#[]⟩, .pointer (some ⟨w.heap.size, 0, none⟩), .int .i64 at', u5, u6, u7, u8, u9, u10, u11, u12, u13, u14, undef, undef, undef, undef, undef, undef, undef, undef], defers := [] }
     ∧ w' = w.alloc (.cells (ys.map bv).toArray 134) ∧ ys.length = 9 ∧ at' ≤ 8 ∧ m < 256 ^ at' ∧ Dg.bytes n = Dg.bytesF at' m ++ ys.drop (at' + 1)) (fun a' _ => (intOf (a'.tmps.getD 0 undef)).toNat) rfl ?_ ?_
  · by_cases h0 : 0 < n
    · have hb : Dg.bytes n = Dg.bytesF 7 (n / 256) ++ [UInt8.ofNat (n % 256)] := Dg.bytesF_step 7 n (by omega)
      have HB := Lib.hid hb
      clear hb
      go_wp2
      go_step3
      go_wp2
      go_step3
      refine ⟨rfl, n / 256, 7, [0,0,0,0,0,0,0,0,UInt8.ofNat (n % 256)], _, _, _, _, _, _, _, _, _, _, rfl, ?_, rfl, by omega, by omega, HB.out⟩
      congr 1
      simp [bv]
    · obtain rfl : n = 0 := by omega
      have hv := conv_tail w [0,0,0,0,0,0,0,0,0] 8 (by decide) 134 1 1 rfl
      simp [bv] at hv
      go_wp2
      go_step3
      go_wp2
      simp only [Exit.jump]
      go_ret
      exact ⟨rfl, (Below.refl _ _).alloc (Nat.le_refl _) _⟩
  · rintro a' w' ⟨m, at', ys, u5, u6, u7, u8, u9, u10, u11, u12, u13, u14, rfl, rfl, hy, h8, hm, hb⟩
    by_cases h0 : 0 < m
    · have ha : 0 < at' := by rcases Nat.eq_zero_or_pos at' with h | h; (subst h; simp at hm; omega); exact h
      have hc := cell_bv ys at' (by omega)
      obtain ⟨k, rfl⟩ : ∃ k, at' = k + 1 := ⟨at' - 1, by omega⟩
      have hb' : Dg.bytes n = Dg.bytesF k (m / 256) ++ (ys.set (k + 1) (UInt8.ofNat (m % 256))).drop (k + 1) := by
        rw [hb, Dg.bytesF_step k m (by omega), List.append_assoc]
        congr 1
        rw [List.drop_eq_getElem_cons (i := k + 1) (by simp; omega)]
        simp [List.drop_set]
      have hm' : m / 256 < 256 ^ k := by rw [Nat.pow_succ] at hm; omega
      have HB := Lib.hid hb'
      have HY := Lib.hid hy
      clear hb hb' hm hn hy
      go_wp2
      go_step3
      refine ⟨rfl, ⟨m / 256, k, ys.set (k + 1) (UInt8.ofNat (m % 256)), _, _, _, _, _, _, _, _, _, _, rfl, ?_, by simpa using HY.out, by omega, hm', HB.out⟩, ?_⟩
      · rw [set_bv]
      · simp [intOf]; omega
    · obtain rfl : m = 0 := by omega
      have hc := cell_bv ys at' (by omega)
      have hv := conv_tail w (ys.set at' (UInt8.ofNat (8 - at'))) at' (by simp; omega) 134 (9 - at') (9 - at') (by simp; omega)
      rw [← set_len ys at' h8] at hv
      have hs := slice_nine w.heap.size at' h8
      have hf : (ys.set at' (UInt8.ofNat (8 - at'))).drop at' = Dg.num n := by
        rw [List.drop_eq_getElem_cons (i := at') (by simp; omega)]
        have hb' : Dg.bytes n = ys.drop (at' + 1) := by rw [hb, Dg.bytesF_zero]; rfl
        simp only [List.getElem_set_self, List.drop_set]
        rw [if_pos (by omega), ← hb', Dg.num, hb', List.length_drop, hy]
        congr 2
        omega
      rw [hf] at hv
      have HF := Lib.hid hf
      clear hf hb hy hm
      go_wp2
      simp only [Exit.jump]
      go_ret
      exact ⟨rfl, (Below.refl _ _).alloc (Nat.le_refl _) _⟩
end Go.Proofs.Ytbkpekpajeaacaa
end
section
/- The contract of Text. -/
namespace Go.Proofs.Ytbkpekpajeaacaa
open Go.RowKit
attribute [local go_sem] ByteArray.mk_append_mk

set_option maxHeartbeats 1000000 in
theorem text_any (l : List UInt8) (hl : l.length ≤ 140737488351232) (w : World) :
    Calls Try.prog 71 #[tx l] w fun e w' => e = .returned (tx (Dg.num l.length ++ l)) ∧ Below w.heap.size w w' := by
  have hn := Dg.num_len l.length
  go_enter Try.func71, Try.ntmps71
  go_wp2_with (go_at_call 65; refine (num_any _ (by omega) _).mono ?_; rintro e w' ⟨rfl, hb⟩)
  go_ret
  exact ⟨rfl, hb⟩

/-- 'string([]byte{x})'. -/
theorem conv_one (w : World) (y : UInt8) (t : TypeId) (c : Nat) (n : Int) (hn : n = (y.toNat : Int)) :
    (convert 79 9 (.slice (some ⟨w.heap.size, 0, none⟩) 1 c)).run Try.prog (w.alloc (.cells #[.int .u8 n] t)) = .ok (tx [y]) (w.alloc (.cells #[.int .u8 n] t)) := by
  subst hn
  exact conv_tail w [y] 0 (by simp) t 1 c rfl
end Go.Proofs.Ytbkpekpajeaacaa
end
section
/- The order of texts by their bytes, and of numbers' bytes. No program is named here. -/
namespace Dg

/-- Is a text ahead of another one, by their bytes? -/
def less : List UInt8 → List UInt8 → Bool
  | [], [] => false
  | [], _ :: _ => true
  | _ :: _, [] => false
  | x :: a, y :: b => if x = y then less a b else decide (x.toNat < y.toNat)

theorem foldl_ofB (l : List UInt8) (v : Nat) : l.foldl (fun v b => v * 256 + b.toNat) v = v * 256 ^ l.length + ofB l := by
  induction l generalizing v with
  | nil => simp [ofB]
  | cons b l ih =>
    simp only [ofB, List.foldl_cons, List.length_cons]
    rw [ih, ih]
    simp only [Nat.zero_mul, Nat.zero_add, Nat.pow_succ, Nat.add_mul]
    rw [Nat.mul_assoc, Nat.mul_comm 256]
    omega
theorem ofB_cons (b : UInt8) (l : List UInt8) : ofB (b :: l) = b.toNat * 256 ^ l.length + ofB l := by
  rw [ofB, List.foldl_cons, foldl_ofB]; simp

theorem less_eqlen (a b : List UInt8) (h : a.length = b.length) : less a b = decide (ofB a < ofB b) := by
  induction a generalizing b with
  | nil => cases b with
    | nil => simp [less]
    | cons => simp at h
  | cons x a ih => cases b with
    | nil => simp at h
    | cons y b =>
      simp only [List.length_cons, Nat.add_right_cancel_iff] at h
      rw [less, ofB_cons, ofB_cons, h]
      have ha := ofB_lt a
      have hb := ofB_lt b
      rw [h] at ha
      split
      · rename_i e
        subst e
        rw [ih b h]
        congr 1
        simp
      · rename_i ne
        have ne' : x.toNat ≠ y.toNat := fun e => ne (UInt8.toNat_inj.1 e)
        rcases Nat.lt_or_gt_of_ne ne' with hlt | hgt
        · have := Nat.mul_le_mul_right (256 ^ b.length) (show x.toNat + 1 ≤ y.toNat from hlt)
          rw [Nat.add_mul] at this
          simp only [hlt, decide_true]
          symm; rw [decide_eq_true_iff]; omega
        · have := Nat.mul_le_mul_right (256 ^ b.length) (show y.toNat + 1 ≤ x.toNat from hgt)
          rw [Nat.add_mul] at this
          rw [decide_eq_false (by omega)]
          symm; rw [decide_eq_false_iff_not]; omega

theorem ofB_bytesF (k v : Nat) (h : v < 256 ^ k) : ofB (bytesF k v) = v := by
  induction k generalizing v with
  | zero => simp at h; subst h; simp [bytesF, ofB]
  | succ k ih =>
    by_cases h0 : v = 0
    · subst h0; simp [bytesF_zero, ofB]
    · rw [bytesF_step k v h0, ofB_snoc, ih _ (by rw [Nat.pow_succ] at h; omega)]
      simp; omega
theorem ofB_bytes (v : Nat) (h : v < 18446744073709551616) : ofB (bytes v) = v := ofB_bytesF 8 v (by omega)

theorem bytesF_head (k v : Nat) (h : v < 256 ^ k) : (bytesF k v).headD 1 ≠ 0 := by
  induction k generalizing v with
  | zero => simp [bytesF]
  | succ k ih =>
    by_cases h0 : v = 0
    · subst h0; simp [bytesF_zero]
    · rw [bytesF_step k v h0]
      have ih' := ih (v / 256) (by rw [Nat.pow_succ] at h; omega)
      cases hb : bytesF k (v / 256) with
      | nil =>
        have hz := ofB_bytesF k (v / 256) (by rw [Nat.pow_succ] at h; omega)
        rw [hb] at hz
        simp [ofB] at hz
        simp only [List.nil_append, List.headD_cons]
        intro e
        have := congrArg UInt8.toNat e
        simp at this
        omega
      | cons x l => rw [hb] at ih'; simpa using ih'
theorem bytes_head (v : Nat) (h : v < 18446744073709551616) : (bytes v).headD 1 ≠ 0 := bytesF_head 8 v (by omega)

theorem ofB_ge (l : List UInt8) (h : l.headD 1 ≠ 0) (hl : l ≠ []) : 256 ^ (l.length - 1) ≤ ofB l := by
  cases l with
  | nil => simp at hl
  | cons b l =>
    rw [ofB_cons]
    have : 1 ≤ b.toNat := by
      rcases Nat.eq_zero_or_pos b.toNat with e | e
      · exact absurd (UInt8.toNat_inj.1 (by simpa using e) : b = 0) (by simpa using h)
      · exact e
    have := Nat.mul_le_mul_right (256 ^ l.length) this
    simp only [List.length_cons, Nat.add_sub_cancel]
    omega

theorem bytes_shorter (v w : Nat) (hv : v < 18446744073709551616) (hw : w < 18446744073709551616) (h : (bytes v).length < (bytes w).length) : v < w := by
  have h1 := ofB_lt (bytes v)
  have h2 := ofB_ge (bytes w) (bytes_head w hw) (by intro e; rw [e] at h; simp at h)
  rw [ofB_bytes v hv] at h1
  rw [ofB_bytes w hw] at h2
  have := Nat.pow_le_pow_right (n := 256) (by omega) (show (bytes v).length ≤ (bytes w).length - 1 by omega)
  omega

theorem less_num (v w : Nat) (hv : v < 18446744073709551616) (hw : w < 18446744073709551616) : less (num v) (num w) = decide (v < w) := by
  have lv := bytes_len v
  have lw := bytes_len w
  rw [num, num, less]
  have ev : (UInt8.ofNat (bytes v).length).toNat = (bytes v).length := by rw [UInt8.toNat_ofNat']; omega
  have ew : (UInt8.ofNat (bytes w).length).toNat = (bytes w).length := by rw [UInt8.toNat_ofNat']; omega
  split
  · rename_i e
    have e' : (bytes v).length = (bytes w).length := by rw [← ev, ← ew, e]
    rw [less_eqlen _ _ e', ofB_bytes v hv, ofB_bytes w hw]
  · rename_i ne
    rw [ev, ew]
    rcases Nat.lt_trichotomy (bytes v).length (bytes w).length with h | h | h
    · rw [decide_eq_true h]
      symm; rw [decide_eq_true_iff]; exact bytes_shorter v w hv hw h
    · rw [h] at ne; exact absurd rfl ne
    · have := bytes_shorter w v hw hv h
      rw [decide_eq_false (by omega)]
      symm; rw [decide_eq_false_iff_not]; omega

theorem num_inj (v w : Nat) (hv : v < 18446744073709551616) (hw : w < 18446744073709551616) (h : num v = num w) : v = w := by
  rw [num, num, List.cons.injEq] at h
  rw [← ofB_bytes v hv, ← ofB_bytes w hw, h.2]
end Dg
end
section
/- A slice of texts in a world. -/
namespace Go.Proofs.Ytbkpekpajeaacaa
open Go.RowKit

/-- The slice v holds the texts ls in the world w. -/
def TxAt (w : World) (v : Value) (ls : List (List UInt8)) : Prop :=
  (∃ a cap, v = .slice a 0 cap ∧ ls = []) ∨ ∃ b off cap, v = .slice (some ⟨b, off, none⟩) ls.length cap ∧ ∀ i (h : i < ls.length), w.cell? ⟨b, off + i, none⟩ = some (tx ls[i])

theorem TxAt.below {w w' : World} {v : Value} {ls : List (List UInt8)} (h : TxAt w v ls) (hb : Below w.heap.size w w') : TxAt w' v ls := by
  rcases h with h | ⟨b, off, cap, hv, hc⟩
  · exact .inl h
  · exact .inr ⟨b, off, cap, hv, fun i hi => below_cell hb (hc i hi)⟩

theorem TxAt.len {w : World} {v : Value} {ls : List (List UInt8)} (h : TxAt w v ls) : ∃ a cap, v = .slice a ls.length cap := by
  rcases h with ⟨a, cap, rfl, rfl⟩ | ⟨b, off, cap, rfl, _⟩
  · exact ⟨_, _, rfl⟩
  · exact ⟨_, _, rfl⟩

/-- What a call of its own has appended. -/
theorem TxAt.own {w : World} {base n : Nat} {t : TypeId} {v : Value} {ls : List (List UInt8)} (h : w.ownsRow base t 1 v n (ls.map tx)) : TxAt w v ls := by
  obtain ⟨hl, h⟩ := h
  simp only [List.length_map, Nat.mul_one] at hl
  rcases h with ⟨rfl, rfl⟩ | ⟨g, cap, cur, rfl, _, hg, _, _, _, ht⟩
  · exact .inl ⟨_, _, rfl, List.length_eq_zero_iff.1 hl⟩
  · subst hl
    refine .inr ⟨g, 0, cap, rfl, fun i hi => ?_⟩
    have e : (cur.toList.take (ls.length * 1))[i]? = some (tx ls[i]) := by rw [ht]; simp [hi]
    rw [List.getElem?_take_of_lt (by omega)] at e
    simp only [World.cell?, hg, Nat.zero_add]
    simpa using e

end Go.Proofs.Ytbkpekpajeaacaa
end
section
/- Rows of texts as bytes, and back: plain functions. No program is named here. -/
namespace Dg

def text (t : List UInt8) : List UInt8 := num t.length ++ t
def texts : List (List UInt8) → List UInt8
  | [] => []
  | t :: l => text t ++ texts l
def row (l : List (List UInt8)) : List UInt8 := num l.length ++ texts l

abbrev Res := List (List UInt8) × List UInt8 × Nat
/-- So many texts, one behind the other. -/
def takeTexts : Nat → List UInt8 → Int → Res
  | 0, l, _ => ([], l, 0)
  | n + 1, l, most =>
    if (takeText l most).2.2 ≠ 0 then ([], [], (takeText l most).2.2)
    else if (takeTexts n (takeText l most).2.1 most).2.2 ≠ 0 then ([], [], (takeTexts n (takeText l most).2.1 most).2.2)
    else ((takeText l most).1 :: (takeTexts n (takeText l most).2.1 most).1, (takeTexts n (takeText l most).2.1 most).2.1, 0)
def takeRow (l : List UInt8) (many most : Int) : Res :=
  if (takeNum l).2.2 ≠ 0 then ([], [], (takeNum l).2.2) else if above (takeNum l).1 many = true then ([], [], 4) else takeTexts (takeNum l).1 (takeNum l).2.1 most

/-- What was taken so far, ahead of what is still taken. -/
def glue (acc : List (List UInt8)) (x : Res) : Res := if x.2.2 ≠ 0 then ([], [], x.2.2) else (acc ++ x.1, x.2.1, 0)

theorem takeText_bad (l : List UInt8) (most : Int) (h : (takeText l most).2.2 ≠ 0) : takeText l most = ([], [], (takeText l most).2.2) := by
  unfold takeText at h ⊢
  split at h
  · rename_i h1; simp [h1]
  · split at h
    · rename_i h1 h2; rw [if_neg h1, if_pos h2]
    · split at h
      · rename_i h1 h2 h3; rw [if_neg h1, if_neg h2, if_pos h3]
      · exact absurd rfl h
theorem takeTexts_bad (n : Nat) (l : List UInt8) (most : Int) (h : (takeTexts n l most).2.2 ≠ 0) : takeTexts n l most = ([], [], (takeTexts n l most).2.2) := by
  cases n with
  | zero => exact absurd rfl h
  | succ n =>
    rw [takeTexts] at h ⊢
    split at h
    · rename_i h1; rw [if_pos h1]
    · split at h
      · rename_i h1 h2; rw [if_neg h1, if_pos h2]
      · exact absurd rfl h
theorem glue_nil (n : Nat) (l : List UInt8) (most : Int) : glue [] (takeTexts n l most) = takeTexts n l most := by
  unfold glue
  split
  · rename_i h; exact (takeTexts_bad n l most h).symm
  · rename_i h
    have h0 : (takeTexts n l most).2.2 = 0 := by omega
    rw [← h0]; rfl
theorem glue_zero (acc : List (List UInt8)) (l : List UInt8) (most : Int) : glue acc (takeTexts 0 l most) = (acc, l, 0) := by simp [glue, takeTexts]
theorem glue_bad (acc : List (List UInt8)) (n : Nat) (l : List UInt8) (most : Int) {t r : List UInt8} {x : Nat} (h : takeText l most = (t, r, x)) (hx : x ≠ 0) : glue acc (takeTexts (n + 1) l most) = ([], [], x) := by
  rw [takeTexts, h, if_pos hx, glue, if_pos hx]
theorem glue_step (acc : List (List UInt8)) (n : Nat) (l : List UInt8) (most : Int) {t r : List UInt8} (h : takeText l most = (t, r, 0)) : glue acc (takeTexts (n + 1) l most) = glue (acc ++ [t]) (takeTexts n r most) := by
  rw [takeTexts, h, if_neg (by simp)]
  by_cases hx : (takeTexts n r most).2.2 = 0
  · rw [if_neg (by simpa using hx), glue, if_neg (by simp), glue, if_neg (by simpa using hx)]
    simp
  · rw [if_pos hx, glue, if_pos hx, glue, if_pos hx]

/-- A text that is taken is no longer than the bytes, and at least one byte is gone. -/
theorem takeNum_less (l : List UInt8) (h : (takeNum l).2.2 = 0) : (takeNum l).2.1.length + 1 ≤ l.length := by
  cases l with
  | nil => simp [takeNum] at h
  | cons b r =>
    rw [takeNum] at h ⊢
    split at h
    · simp at h
    · rename_i h1
      split at h
      · simp at h
      · rename_i h2
        split at h
        · simp at h
        · rename_i h3
          rw [if_neg h1, if_neg h2, if_neg h3]
          simp
theorem takeText_less (l : List UInt8) (most : Int) (h : (takeText l most).2.2 = 0) : (takeText l most).2.1.length + 1 ≤ l.length := by
  unfold takeText at h ⊢
  split at h
  · exact absurd h (by assumption)
  · rename_i h1
    have := takeNum_less l (by simpa using h1)
    split at h
    · simp at h
    · rename_i h2
      split at h
      · simp at h
      · rename_i h3
        rw [if_neg h1, if_neg h2, if_neg h3]
        simp; omega
theorem takeText_err (l : List UInt8) (most : Int) : (takeText l most).2.2 ≤ 4 := by
  have := takeNum_err l
  unfold takeText
  split
  · simp; omega
  · split
    · simp
    · split <;> simp
theorem takeTexts_err (n : Nat) (l : List UInt8) (most : Int) : (takeTexts n l most).2.2 ≤ 4 := by
  induction n generalizing l with
  | zero => simp [takeTexts]
  | succ n ih =>
    rw [takeTexts]
    have h1 := takeText_err l most
    have h2 := ih (takeText l most).2.1
    split
    · simpa using h1
    · split
      · simpa using h2
      · simp
theorem takeTexts_len (n : Nat) (l : List UInt8) (most : Int) : (takeTexts n l most).1.length ≤ l.length ∧ (takeTexts n l most).2.1.length ≤ l.length := by
  induction n generalizing l with
  | zero => simp [takeTexts]
  | succ n ih =>
    rw [takeTexts]
    have h2 := ih (takeText l most).2.1
    have h3 := takeText_rest l most
    split
    · simp
    · rename_i h1
      have h4 := takeText_less l most (by simpa using h1)
      split
      · simp
      · simp; omega
theorem takeRow_len (l : List UInt8) (many most : Int) : (takeRow l many most).1.length ≤ l.length ∧ (takeRow l many most).2.1.length ≤ l.length := by
  have h := takeTexts_len (takeNum l).1 (takeNum l).2.1 most
  have h2 := takeNum_rest l
  unfold takeRow
  split
  · simp
  · split
    · simp
    · omega
end Dg
end
section
/- (The small lemmas on worlds lie in Base.) -/
end
section
/- Opening what came in: numbers, texts. -/
namespace Go.Proofs.Ytbkpekpajeaacaa
open Go.RowKit Go.ChangeShapes Go.WideShapes Go.ChangeAt
open Go.ChangeMaps (open_string shut_string)
set_option maxRecDepth 100000

section
variable {H : Type} {enc : TypeId × Value → H} {W : World} {base : Nat} {t : TypeId} {v : Value} {d : DataW H} {p : List MemPlace}

theorem open_tx (ht : Try.prog.underlying t = some .string) (o : Value.okWide Try.prog W .any base t v) (h : DataW.Trod enc Try.prog W 0 (fun _ => true) true t v d p) :
    ∃ l : List UInt8, v = tx l ∧ d = .lit (.string l) ∧ p = [] := by
  obtain ⟨s, rfl, rfl, rfl, _⟩ := open_string ht o h
  exact ⟨s.data.toList, rfl, rfl, rfl⟩

theorem open_u64 (ht : Try.prog.underlying t = some (.int .u64)) (o : Value.okWide Try.prog W .any base t v) (h : DataW.Trod enc Try.prog W 0 (fun _ => true) true t v d p) :
    ∃ n : Nat, n < 18446744073709551616 ∧ v = .int .u64 n ∧ d = .lit (.int .u64 n) ∧ p = [] := by
  obtain ⟨x, rfl, rfl, rfl, wx⟩ := open_int ht o h
  have hb : 0 ≤ x ∧ x ≤ 18446744073709551615 := by simpa [Lit.wf, IntKind.min, IntKind.max, IntKind.signed, IntKind.bits] using wx
  obtain ⟨n, rfl⟩ := Int.eq_ofNat_of_zero_le hb.1
  exact ⟨n, by omega, rfl, rfl, rfl⟩

theorem open_i64 (ht : Try.prog.underlying t = some (.int .i64)) (o : Value.okWide Try.prog W .any base t v) (h : DataW.Trod enc Try.prog W 0 (fun _ => true) true t v d p) :
    ∃ n : Int, -9223372036854775808 ≤ n ∧ n ≤ 9223372036854775807 ∧ v = .int .i64 n ∧ d = .lit (.int .i64 n) ∧ p = [] := by
  obtain ⟨x, rfl, rfl, rfl, wx⟩ := open_int ht o h
  have hb : -9223372036854775808 ≤ x ∧ x ≤ 9223372036854775807 := by simpa [Lit.wf, IntKind.min, IntKind.max, IntKind.signed, IntKind.bits] using wx
  exact ⟨x, hb.1, hb.2, rfl, rfl, rfl⟩
end

theorem reach_nat {n : Nat} (h : n ≤ reachBytes) : n ≤ 140737488351232 := h
end Go.Proofs.Ytbkpekpajeaacaa
end
section
/- Opening a field that came in: a text, a number. -/
namespace Go.Proofs.Ytbkpekpajeaacaa
open Go.RowKit Go.ChangeShapes Go.WideShapes Go.ChangeAt

section
variable {H : Type} {enc : TypeId × Value → H} {W : World} {n : Nat} {t : TypeId} {v : Value} {y : DataW H × List MemPlace}

theorem trod_tx (ht : Try.prog.underlying t = some .string) (h : DataW.trod enc Try.prog W 0 (fun _ => true) true n t [v] = some y) : ∃ l : List UInt8, v = tx l ∧ y = (.lit (.string l), []) := by
  obtain ⟨s, hs, rfl, _⟩ := DataW.trod_string ht h
  cases hs
  exact ⟨s.data.toList, rfl, rfl⟩
theorem trod_u64 (ht : Try.prog.underlying t = some (.int .u64)) (h : DataW.trod enc Try.prog W 0 (fun _ => true) true n t [v] = some y) : ∃ m : Nat, m < 18446744073709551616 ∧ v = .int .u64 m ∧ y = (.lit (.int .u64 m), []) := by
  obtain ⟨x, hs, rfl, wx⟩ := DataW.trod_int ht h
  cases hs
  have hb : 0 ≤ x ∧ x ≤ 18446744073709551615 := by simpa [Lit.wf, IntKind.min, IntKind.max, IntKind.signed, IntKind.bits] using wx
  obtain ⟨m, rfl⟩ := Int.eq_ofNat_of_zero_le hb.1
  exact ⟨m, by omega, rfl, rfl⟩
theorem trod_i64 (ht : Try.prog.underlying t = some (.int .i64)) (h : DataW.trod enc Try.prog W 0 (fun _ => true) true n t [v] = some y) : ∃ m : Int, -9223372036854775808 ≤ m ∧ m ≤ 9223372036854775807 ∧ v = .int .i64 m ∧ y = (.lit (.int .i64 m), []) := by
  obtain ⟨x, hs, rfl, wx⟩ := DataW.trod_int ht h
  cases hs
  have hb : -9223372036854775808 ≤ x ∧ x ≤ 9223372036854775807 := by simpa [Lit.wf, IntKind.min, IntKind.max, IntKind.signed, IntKind.bits] using wx
  exact ⟨x, hb.1, hb.2, rfl, rfl⟩

end
end Go.Proofs.Ytbkpekpajeaacaa
end
section
/- Rows of texts, from the front. -/
namespace Dg
theorem texts_snoc (l : List (List UInt8)) (t : List UInt8) : texts (l ++ [t]) = texts l ++ text t := by
  induction l with
  | nil => simp [texts]
  | cons x l ih => simp [texts, ih]
theorem texts_take (l : List (List UInt8)) (k : Nat) (h : k < l.length) : texts (l.take (k + 1)) = texts (l.take k) ++ text l[k] := by
  rw [List.take_succ_eq_append_getElem h, texts_snoc]
theorem texts_take_len (l : List (List UInt8)) (k : Nat) : (texts (l.take k)).length ≤ (texts l).length := by
  induction l generalizing k with
  | nil => simp
  | cons x l ih =>
    cases k with
    | zero => simp [texts]
    | succ k => simp only [List.take_succ_cons, texts, List.length_append]; have := ih k; omega
theorem text_len (l : List (List UInt8)) (k : Nat) (h : k < l.length) : l[k].length ≤ (texts l).length := by
  have h1 := texts_take_len l (k + 1)
  rw [texts_take l k h, text] at h1
  simp only [List.length_append] at h1
  omega
end Dg
namespace Go.Proofs.Ytbkpekpajeaacaa
open Go.RowKit

theorem info_byte : (Try.prog.info? 5).map (fun i => (i.zero, i.size, i.bytes)) = some (some (.int .u8 0), 1, 1) := by kernel_rfl
end Go.Proofs.Ytbkpekpajeaacaa
end
section
/- The contracts of the strings.Builder that a call has made itself: WriteString (by the walk), String (by the library's contract, at this program's numbers). -/
namespace Go.Proofs.Ytbkpekpajeaacaa
open Go.RowKit Go.Shelf

theorem info_builder : (Try.prog.info? 138).map (·.size) = some 2 := by kernel_rfl
theorem lies_builder : liesAt Try.prog Try.prog.depth 138 (2 / Try.prog.cellsOf 138) 0 138 1 = true := by kernel_rfl
theorem builder_byte : (Try.prog.info? 5).map (fun i => (i.zero, i.size, i.bytes)) = some (some (.int .u8 0), 1, 1) := by kernel_rfl

set_option maxHeartbeats 1000000 in
set_option maxRecDepth 100000 in
theorem copyCheck_used (b : Nat) (w : World) (h : w.cell? ⟨b, 0, none⟩ = some (.pointer (some ⟨b, 0, none⟩))) :
    Calls Try.prog 119 #[.pointer (some ⟨b, 0, none⟩)] w fun e w' => e = .returned (.tuple #[]) ∧ w = w' := by
  obtain ⟨j, hj, _⟩ := Option.map_eq_some_iff.1 info_builder
  have hn := Lib.run_neq_ptr_same (P := Try.prog) w (⟨b, 0, none⟩ : Addr) Try.underlying136 hj
  go_enter Try.func119, Try.ntmps119
  go_wp2
  go_end0
  exact ⟨rfl, rfl⟩

set_option maxHeartbeats 1000000 in
set_option maxRecDepth 100000 in
theorem copyCheck_fresh (b : Nat) (w : World) (h : w.cell? ⟨b, 0, none⟩ = some (.pointer none)) (hs : w.shape? b = some (138, 2)) (hf : w.frozen? ⟨b, 0, none⟩ = false) :
    Calls Try.prog 119 #[.pointer (some ⟨b, 0, none⟩)] w fun e w' => e = .returned (.tuple #[]) ∧ w.setCell ⟨b, 0, none⟩ (.pointer (some ⟨b, 0, none⟩)) = w' := by
  obtain ⟨j, hj, hjs⟩ := Option.map_eq_some_iff.1 info_builder
  have h1 := Lib.run_to_unsafe (P := Try.prog) w (⟨b, 0, none⟩ : Addr) Try.underlying136 Try.underlying167 hj (by rw [hjs]; decide) hs (Nat.zero_lt_succ 1)
  have h2 := Lib.run_from_unsafe (P := Try.prog) w (⟨b, 0, none⟩ : Addr) Try.underlying167 Try.underlying136 hj hs lies_builder
  go_enter Try.func119, Try.ntmps119
  go_wp2
  rw [run_callFunc_extern Try.func127 (by kernel_rfl) (by kernel_rfl) (by kernel_rfl) (e := Extern.AbiNoEscape.same) (by kernel_rfl), Lib.run_noEscape]
  simp only [Result.andThen]
  rw [Oper.upon_value]
  go_wp2
  go_end0
  exact ⟨rfl, rfl⟩

theorem copyCheck_any (B b : Nat) (bs : List Value) (w : World) (h : Lib.IsBuilder 138 5 B b bs w) :
    Calls Try.prog 119 #[.pointer (some ⟨b, 0, none⟩)] w fun e w' => e = .returned (.tuple #[]) ∧ Lib.BuilderAt 138 5 B b (.pointer (some ⟨b, 0, none⟩)) bs w' ∧ Below B w w' := by
  rcases h with h | h
  · refine (copyCheck_fresh b w h.cell0 h.shape h.frozen0).mono ?_
    rintro e w' ⟨rfl, rfl⟩
    exact ⟨rfl, h.used _, (Below.refl _ _).setCell (p := ⟨b, 0, none⟩) h.1 _⟩
  · refine (copyCheck_used b w h.cell0).mono ?_
    rintro e w' ⟨rfl, rfl⟩
    exact ⟨rfl, h, Below.refl _ _⟩

set_option maxHeartbeats 2000000 in
set_option maxRecDepth 100000 in
theorem writeString_any (B b : Nat) (bs : List Value) (s : List UInt8) (w : World) (h : Lib.IsBuilder 138 5 B b bs w) (hl : bs.length + s.length ≤ 140737488355328) (hB : B ≤ w.heap.size) :
    Calls Try.prog 94 #[.pointer (some ⟨b, 0, none⟩), tx s] w fun e w' => e = .returned (.tuple #[.int .i64 s.length, .nilIface]) ∧ Lib.IsBuilder 138 5 B b (bs ++ s.map bv) w' ∧ Below B w w' := by
  obtain ⟨i0, hi, hz0, hz1, hz2⟩ := info_parts builder_byte
  go_enter Try.func94, Try.ntmps94
  go_wp2_with fail
  refine (copyCheck_any B b bs w h).mono ?_
  rintro e w1 ⟨rfl, ⟨hb, v, hbk, hown, hne⟩, hbel⟩
  have hs1 := hbel.size
  have hlt : b < w1.heap.size := (Array.getElem?_eq_some_iff.1 hbk).1
  have c0 : w1.cell? ⟨b, 0, none⟩ = some (.pointer (some ⟨b, 0, none⟩)) := by rw [Lib.cell_of_heap hbk]; rfl
  have c1 : w1.cell? ⟨b, 1, none⟩ = some v := by rw [Lib.cell_of_heap hbk]; rfl
  have HO := Lib.hid hown
  have HK := Lib.hid hbk
  have HN := Lib.hid hne
  clear hown hbk hne
  go_wp2_with (at_builtin; refine Lib.wpList_append_own_string _ rfl _ _ 79 9 rfl B 5 i0 Try.underlying79 Try.underlying9 hi hz0 hz1 hz2 _ _ _ rfl HO.out ⟨s.toArray⟩ rfl ?c1 ?c2 ?c3 ?_)
  case c1 => show bs.length + s.length ≤ maxLen; unfold maxLen; omega
  case c2 => show bs.length + s.length ≤ 140737488355328; omega
  case c3 => omega
  intro v' w2 hown2 hg _
  have hbk2 : w2.heap[b]? = some (.cells #[.pointer (some ⟨b, 0, none⟩), v] 138 (0, 0)) := by
    rw [hg.block b hlt (fun e => HN.out e.symm)]
    exact HK.out
  have d0 : w2.cell? ⟨b, 0, none⟩ = some (.pointer (some ⟨b, 0, none⟩)) := by rw [Lib.cell_of_heap hbk2]; rfl
  have d1 : w2.cell? ⟨b, 1, none⟩ = some v := by rw [Lib.cell_of_heap hbk2]; rfl
  have f1 : w2.frozen? ⟨b, 1, none⟩ = false := Lib.frozen_of_heap hbk2 1
  obtain ⟨a', n', cap', rfl⟩ : ∃ a' n' cap', v' = .slice a' n' cap' := by
    rcases hown2.2 with ⟨hv, _⟩ | ⟨_, _, _, hv, _⟩ <;> exact ⟨_, _, _, hv⟩
  have hput := Lib.BuilderAt.put (T := 138) (e := 5) hb hbk2 (bs' := bs ++ Lib.strCells ⟨s.toArray⟩) (by rw [List.length_append, Lib.strCells_length]; exact hown2) (by decide)
  have hbel2 : Below B w w2 := hbel.grown hg (by omega) (fun k hk => (HO.out.lt k hk).1)
  have HP := Lib.hid hput
  have HB := Lib.hid hbel2
  clear hput hbel2 hown2 hg hbk2 c0 c1
  go_wp2
  go_ret2
  exact ⟨rfl, .inr HP.out, HB.out.setCell (p := ⟨b, 1, none⟩) hb _⟩

def str_ren : Go.Shelf.Ren := ⟨fun | 169 => 95 | n => n, fun | 70 => 136 | 9 => 9 | 0 => 0 | 72 => 138 | 37 => 79 | 127 => 161 | 3 => 3 | 5 => 5 | n => n, fun | n => n⟩
theorem str_lays : Go.Proofs.Lays.n169 Try.prog str_ren := {
  mixed := by kernel_rfl
  f169 := Try.func95.trans (congrArg some (by kernel_rfl))
  t0 := Try.underlying0, a0 := Try.isAgg0, z0 := Try.sizeOf0, v0 := Try.zeroValue0
  t3 := Try.underlying3, a3 := Try.isAgg3, z3 := Try.sizeOf3, v3 := Try.zeroValue3
  t9 := Try.underlying9, a9 := Try.isAgg9, z9 := Try.sizeOf9, v9 := Try.zeroValue9
  t37 := Try.underlying79, a37 := Try.isAgg79, z37 := Try.sizeOf79, v37 := Try.zeroValue79
  t70 := Try.underlying136, a70 := Try.isAgg136, z70 := Try.sizeOf136, v70 := Try.zeroValue136
  t72 := Try.underlying138, a72 := Try.isAgg138, z72 := Try.sizeOf138, v72 := Try.zeroValue138
  t127 := Try.underlying161, a127 := Try.isAgg161, z127 := Try.sizeOf161, v127 := Try.zeroValue161 }
theorem str_extra : Builder.Extra Try.prog str_ren := {
  sizeBuilder := by kernel_rfl
  liesBuilder := by kernel_rfl
  t5 := Try.underlying5, a5 := Try.isAgg5, z5 := Try.sizeOf5, v5 := Try.zeroValue5
  infoByte := by kernel_rfl
  cellsByte := by kernel_rfl
  sizeByte := by kernel_rfl
  neB5 := by decide }
theorem string_any (B b : Nat) (l : List UInt8) (w : World) (h : Lib.IsBuilder 138 5 B b (l.map bv) w) (hB : B ≤ w.heap.size) :
    Calls Try.prog 95 #[.pointer (some ⟨b, 0, none⟩)] w fun e w' => e = .returned (tx l) ∧ Below B w w' :=
  Any.Builder_String_any str_lays str_extra B b l w h hB
end Go.Proofs.Ytbkpekpajeaacaa
end
section
/- The contract of Row, in the program's own text. -/
namespace Go.Proofs.Ytbkpekpajeaacaa
open Go.RowKit

theorem num_eq {n : Nat} {l : List UInt8} (h : Dg.num n = l) (hn : n < 18446744073709551616) (w : World) :
    Calls Try.prog 65 #[.int .u64 n] w fun e w' => e = .returned (tx l) ∧ Below w.heap.size w w' := by
  subst h
  exact num_any n hn w
theorem text_eq {t l : List UInt8} (h : Dg.text t = l) (hl : t.length ≤ 140737488351232) (w : World) :
    Calls Try.prog 71 #[tx t] w fun e w' => e = .returned (tx l) ∧ Below w.heap.size w w' := by
  subst h
  exact text_any t hl w

theorem isBuilder_below {B b : Nat} {bs : List Value} {w w' : World} (h : Lib.IsBuilder 138 5 B b bs w) (hb : Below w.heap.size w w') : Lib.IsBuilder 138 5 B b bs w' := by
  have one : ∀ p, Lib.BuilderAt 138 5 B b p bs w → Lib.BuilderAt 138 5 B b p bs w' := by
    rintro p ⟨hB, v, hk, ho, hn⟩
    refine ⟨hB, v, by rw [hb.block b (Array.getElem?_eq_some_iff.1 hk).1]; exact hk, ⟨ho.1, ?_⟩, hn⟩
    rcases ho.2 with h0 | ⟨g, cap, cur, hv, hg, hh, r⟩
    · exact .inl h0
    · exact .inr ⟨g, cap, cur, hv, hg, by rw [hb.block g (Array.getElem?_eq_some_iff.1 hh).1]; exact hh, r⟩
  rcases h with h | h
  · exact .inl (one _ h)
  · exact .inr (one _ h)

set_option maxHeartbeats 2000000 in
theorem row_any (v : Value) (ls : List (List UInt8)) (w : World) (hv : TxAt w v ls) (hl : ls.length ≤ 4294967296) (ht : (Dg.texts ls).length ≤ 4294967296) :
    Calls Try.prog 66 #[v] w fun e w' => e = .returned (tx (Dg.row ls)) ∧ Below w.heap.size w w' := by
  obtain ⟨aa, ca, rfl⟩ := hv.len
  obtain ⟨nb, hnb⟩ : ∃ nb, Dg.num ls.length = nb := ⟨_, rfl⟩
  have hnl : nb.length ≤ 9 := by rw [← hnb]; exact Dg.num_len _
  have HV := Lib.hid hv
  have HN := Lib.hid hnb
  clear hv hnb
  go_enter Try.func66, Try.ntmps66
  go_wp2_with fail
  refine (num_eq HN.out (by omega) _).mono ?_
  rintro e w1 ⟨rfl, hb1⟩
  have hB0 := isBuilder_below (Lib.fresh_isBuilder 138 5 w) hb1
  have hs1 := hb1.size
  have hw1 : w.heap.size ≤ w1.heap.size := by simp at hs1; omega
  have HB0 := Lib.hid hB0
  clear hB0
  go_wp2_with fail
  refine (writeString_any w.heap.size w.heap.size [] nb _ HB0.out (by simp; omega) hw1).mono ?_
  rintro e w2 ⟨rfl, hB2, hb2⟩
  have hbw : Below w.heap.size w w2 := (((Below.refl _ _).alloc (Nat.le_refl _) _).trans (hb1.mono (by simp))).trans hb2
  have hs2 := hb2.size
  have HB2 := Lib.hid hB2
  clear hB2
  go_wp2_with fail
  go_loopw [13] (fun i wr => ∃ k : Nat, i = .int .i64 k ∧ k ≤ ls.length ∧ Lib.IsBuilder 138 5 w.heap.size w.heap.size ((nb ++ Dg.texts (ls.take k)).map bv) wr ∧ Below w.heap.size w wr) (fun i _ => ls.length - (intOf i).toNat)
  case atStart => exact ⟨0, rfl, by omega, by simpa [Dg.texts] using HB2.out, hbw⟩
  case round =>
    obtain ⟨k, rfl, hk, hB, hbr⟩ := hrel
    by_cases hlt : k < ls.length
    · rcases HV.out with ⟨_, _, _, h0⟩ | ⟨bb, ob, cb, hvb, hcb⟩
      · rw [h0] at hlt; simp at hlt
      cases hvb
      have hc := below_cell hbr (hcb k hlt)
      have htl := Dg.text_len ls k hlt
      have htk := Dg.texts_take_len ls k
      have htk1 := Dg.texts_take_len ls (k + 1)
      have hts := Dg.texts_take ls k hlt
      obtain ⟨tb, htb⟩ : ∃ tb, Dg.text ls[k] = tb := ⟨_, rfl⟩
      rw [htb] at hts
      rw [hts] at htk1
      simp only [List.length_append] at htk1
      have hsr := hbr.size
      have HB := Lib.hid hB
      have HT := Lib.hid hts
      have HX := Lib.hid htb
      clear hB hts htb
      go_wp2_with fail
      refine (text_eq HX.out (by omega) _).mono ?_
      rintro e w3 ⟨rfl, hb3⟩
      have hs3 := hb3.size
      have hB3 := isBuilder_below HB.out hb3
      have HB3 := Lib.hid hB3
      clear hB3
      go_wp2_with fail
      refine (writeString_any w.heap.size w.heap.size _ tb _ HB3.out (by simp only [List.length_map, List.length_append]; omega) (by omega)).mono ?_
      rintro e w4 ⟨rfl, hB4, hb4⟩
      have hB5 : Lib.IsBuilder 138 5 w.heap.size w.heap.size ((nb ++ Dg.texts (ls.take (k + 1))).map bv) w4 := by
        rw [HT.out, ← List.append_assoc, List.map_append]; exact hB4
      have hb5 : Below w.heap.size w w4 := (grow_trans hbr hb3).trans hb4
      have HB5 := Lib.hid hB5
      clear hB4 hB5 HB3
      go_wp2
      go_roundw
      case rel => exact ⟨k + 1, by go_num, hlt, HB5.out, hb5⟩
      case measure => simp [intOf]; omega
    · obtain rfl : k = ls.length := by omega
      rw [List.take_length] at hB
      have hf : Dg.row ls = nb ++ Dg.texts ls := by rw [Dg.row, HN.out]
      rw [← hf] at hB
      have hsr := hbr.size
      have HB := Lib.hid hB
      clear hB hf
      go_wp2_with fail
      refine (string_any w.heap.size w.heap.size _ _ HB.out (by omega)).mono ?_
      rintro e w3 ⟨rfl, hb3⟩
      go_wp2_with fail
      go_ret
      exact ⟨rfl, hbr.trans hb3⟩
end Go.Proofs.Ytbkpekpajeaacaa
end
section
/- Taking turns writing round, and the other way; no beginning of a row's bytes is one. No program is named here. -/
namespace Dg

theorem bytes_zero : bytes 0 = [] := rfl
theorem bytes_ne (v : Nat) (hv : v < 18446744073709551616) (h : v ≠ 0) : bytes v ≠ [] := by
  intro e
  have := ofB_bytes v hv
  rw [e] at this
  exact h this.symm

theorem takeNum_num (v : Nat) (hv : v < 18446744073709551616) (more : List UInt8) : takeNum (num v ++ more) = (v, more, 0) := by
  have hl := bytes_len v
  have e : (UInt8.ofNat (bytes v).length).toNat = (bytes v).length := by rw [UInt8.toNat_ofNat']; omega
  rw [num, List.cons_append, takeNum, e, if_neg (by omega), if_neg (by simp), if_neg, List.take_left, List.drop_left, ofB_bytes v hv]
  rintro ⟨h0, h1⟩
  have hh := bytes_head v hv
  cases hb : bytes v with
  | nil => rw [hb] at h0; simp at h0
  | cons x l => rw [hb] at hh h1; exact hh (by simpa using h1)

theorem bytesF_ofB (k : Nat) (l : List UInt8) (hk : l.length ≤ k) (h : l.headD 1 ≠ 0) : bytesF k (ofB l) = l := by
  induction k generalizing l with
  | zero => have : l = [] := List.length_eq_zero_iff.1 (by omega); subst this; simp [bytesF]
  | succ k ih =>
    rcases List.eq_nil_or_concat l with rfl | ⟨l', b, rfl⟩
    · simp [ofB, bytesF_zero]
    · rw [List.concat_eq_append] at h hk ⊢
      have hb := b.toNat_lt
      have e1 : (ofB l' * 256 + b.toNat) / 256 = ofB l' := by omega
      have e2 : (ofB l' * 256 + b.toNat) % 256 = b.toNat := by omega
      have h' : l'.headD 1 ≠ 0 := by
        cases l' with
        | nil => simp
        | cons x l'' => simpa using h
      have hne : ofB (l' ++ [b]) ≠ 0 := by
        have := ofB_ge (l' ++ [b]) h (by simp)
        have : 0 < 256 ^ ((l' ++ [b]).length - 1) := Nat.pow_pos (by omega)
        omega
      rw [bytesF_step k _ hne, ofB_snoc, e1, e2, ih l' (by simp at hk; omega) h']
      simp

theorem takeNum_back (s rest : List UInt8) (v : Nat) (h : takeNum s = (v, rest, 0)) : num v ++ rest = s := by
  cases s with
  | nil => simp [takeNum] at h
  | cons b r =>
    rw [takeNum] at h
    split at h
    · simp at h
    · rename_i h1
      split at h
      · simp at h
      · rename_i h2
        split at h
        · simp at h
        · rename_i h3
          simp only [Prod.mk.injEq] at h
          obtain ⟨rfl, rfl, _⟩ := h
          have hd : (r.take b.toNat).headD 1 ≠ 0 := by
            rcases Nat.eq_zero_or_pos b.toNat with e | e
            · rw [e]; simp
            · intro hh
              refine h3 ⟨e, ?_⟩
              cases r with
              | nil => simp at h2; omega
              | cons x r' =>
                obtain ⟨m, hm⟩ : ∃ m, b.toNat = m + 1 := ⟨b.toNat - 1, by omega⟩
                rw [hm] at hh
                simpa using hh
          have hl : (r.take b.toNat).length = b.toNat := by simp; omega
          rw [num, bytes, bytesF_ofB 8 _ (by omega) hd, hl]
          simp

theorem takeText_text (t more : List UInt8) (most : Int) (h : (t.length : Int) ≤ most) (ht : t.length < 18446744073709551616) : takeText (text t ++ more) most = (t, more, 0) := by
  rw [text, List.append_assoc]
  have e := takeNum_num t.length ht (t ++ more)
  unfold takeText
  rw [e]
  have ha : above t.length most = false := by simp [above]; omega
  simp [ha]
theorem takeTexts_texts (l : List (List UInt8)) (more : List UInt8) (most : Int) (h : ∀ t ∈ l, (t.length : Int) ≤ most) (ht : ∀ t ∈ l, t.length < 18446744073709551616) : takeTexts l.length (texts l ++ more) most = (l, more, 0) := by
  induction l with
  | nil => simp [takeTexts, texts]
  | cons t l ih =>
    have e := takeText_text t (texts l ++ more) most (h t (by simp)) (ht t (by simp))
    have e2 := ih (fun x hx => h x (by simp [hx])) (fun x hx => ht x (by simp [hx]))
    rw [List.length_cons, takeTexts, texts, List.append_assoc, e]
    simp only []
    rw [e2]
    simp
theorem takeRow_row (l : List (List UInt8)) (more : List UInt8) (many most : Int) (hm : (l.length : Int) ≤ many) (hl : l.length < 18446744073709551616) (h : ∀ t ∈ l, (t.length : Int) ≤ most) (ht : ∀ t ∈ l, t.length < 18446744073709551616) : takeRow (row l ++ more) many most = (l, more, 0) := by
  have e := takeNum_num l.length hl (texts l ++ more)
  unfold takeRow
  rw [row, List.append_assoc, e]
  have ha : above l.length many = false := by simp [above]; omega
  simp only [ha]
  simpa using takeTexts_texts l more most h ht

theorem takeText_back (s t rest : List UInt8) (most : Int) (h : takeText s most = (t, rest, 0)) : text t ++ rest = s ∧ (t.length : Int) ≤ most ∧ t.length < 18446744073709551616 := by
  unfold takeText at h
  have hb := takeNum_bound s
  split at h
  · rename_i h1; simp only [Prod.mk.injEq] at h; exact absurd h.2.2 h1
  · rename_i h1
    split at h
    · simp at h
    · rename_i h2
      split at h
      · simp at h
      · rename_i h3
        simp only [Prod.mk.injEq] at h
        obtain ⟨rfl, rfl, _⟩ := h
        have h0 : (takeNum s).2.2 = 0 := by simpa using h1
        have e := takeNum_back s (takeNum s).2.1 (takeNum s).1 (by rw [← h0])
        have hl : ((takeNum s).2.1.take (takeNum s).1).length = (takeNum s).1 := by simp; omega
        refine ⟨?_, ?_, ?_⟩
        · rw [text, hl, List.append_assoc, List.take_append_drop]; exact e
        · rw [hl]; simp [above] at h2; omega
        · rw [hl]; exact hb
theorem takeTexts_back (n : Nat) (s rest : List UInt8) (l : List (List UInt8)) (most : Int) (h : takeTexts n s most = (l, rest, 0)) : texts l ++ rest = s ∧ l.length = n ∧ (∀ t ∈ l, (t.length : Int) ≤ most) ∧ ∀ t ∈ l, t.length < 18446744073709551616 := by
  induction n generalizing s l with
  | zero => simp only [takeTexts, Prod.mk.injEq] at h; obtain ⟨rfl, rfl, _⟩ := h; simp [texts]
  | succ n ih =>
    rw [takeTexts] at h
    split at h
    · rename_i h1; simp only [Prod.mk.injEq] at h; exact absurd h.2.2 h1
    · rename_i h1
      split at h
      · rename_i h2; simp only [Prod.mk.injEq] at h; exact absurd h.2.2 h2
      · rename_i h2
        simp only [Prod.mk.injEq] at h
        obtain ⟨rfl, rfl, _⟩ := h
        have h10 : (takeText s most).2.2 = 0 := by simpa using h1
        have h20 : (takeTexts n (takeText s most).2.1 most).2.2 = 0 := by simpa using h2
        obtain ⟨e1, m1, b1⟩ := takeText_back s (takeText s most).1 (takeText s most).2.1 most (by rw [← h10])
        obtain ⟨e2, l2, m2, b2⟩ := ih (takeText s most).2.1 (takeTexts n (takeText s most).2.1 most).1 (by rw [← h20])
        refine ⟨?_, by simp [l2], ?_, ?_⟩
        · rw [texts, List.append_assoc, e2, e1]
        · intro x hx
          rcases List.mem_cons.1 hx with rfl | hx
          · exact m1
          · exact m2 x hx
        · intro x hx
          rcases List.mem_cons.1 hx with rfl | hx
          · exact b1
          · exact b2 x hx
theorem takeRow_back (s rest : List UInt8) (l : List (List UInt8)) (many most : Int) (h : takeRow s many most = (l, rest, 0)) : row l ++ rest = s ∧ (l.length : Int) ≤ many ∧ l.length < 18446744073709551616 ∧ (∀ t ∈ l, (t.length : Int) ≤ most) ∧ ∀ t ∈ l, t.length < 18446744073709551616 := by
  unfold takeRow at h
  have hb := takeNum_bound s
  split at h
  · rename_i h1; simp only [Prod.mk.injEq] at h; exact absurd h.2.2 h1
  · rename_i h1
    split at h
    · simp at h
    · rename_i h2
      have h0 : (takeNum s).2.2 = 0 := by simpa using h1
      have e := takeNum_back s (takeNum s).2.1 (takeNum s).1 (by rw [← h0])
      obtain ⟨e1, l1, m1, b1⟩ := takeTexts_back _ _ _ _ _ h
      refine ⟨?_, ?_, by omega, m1, b1⟩
      · rw [row, List.append_assoc, e1, l1]; exact e
      · rw [l1]; simp [above] at h2; omega

/-- No beginning of a row's bytes is a row's. -/
theorem takeRow_cut (l : List (List UInt8)) (k : Nat) (many most : Int) (hk : k < (row l).length) (hl : l.length < 18446744073709551616) (ht : ∀ t ∈ l, t.length < 18446744073709551616) : (takeRow ((row l).take k) many most).2.2 ≠ 0 := by
  intro h0
  obtain ⟨ls, r, hR⟩ : ∃ ls r, takeRow ((row l).take k) many most = (ls, r, 0) := ⟨_, _, by rw [← h0]⟩
  obtain ⟨e, _, b1, _, b2⟩ := takeRow_back _ _ _ _ _ hR
  have e2 : row ls ++ (r ++ (row l).drop k) = row l ++ [] := by rw [← List.append_assoc, e, List.take_append_drop, List.append_nil]
  have t1 := takeRow_row ls (r ++ (row l).drop k) 18446744073709551616 18446744073709551616 (by omega) b1 (fun t h => by have := b2 t h; omega) b2
  have t2 := takeRow_row l [] 18446744073709551616 18446744073709551616 (by omega) hl (fun t h => by have := ht t h; omega) ht
  rw [e2, t2] at t1
  simp only [Prod.mk.injEq] at t1
  have := congrArg List.length t1.2.1
  simp at this
  omega
/-- No beginning of a number's bytes is a number's. -/
theorem takeNum_cut (v k : Nat) (hk : k < (num v).length) : (takeNum ((num v).take k)).2.2 = 2 := by
  have hl := bytes_len v
  have e : (UInt8.ofNat (bytes v).length).toNat = (bytes v).length := by rw [UInt8.toNat_ofNat']; omega
  cases k with
  | zero => simp [takeNum]
  | succ k =>
    rw [num, List.take_succ_cons, takeNum, e, if_neg (by omega), if_pos]
    rw [num] at hk
    simp at hk ⊢
    omega
end Dg
end
section
/- Opening what came in: slices of texts, fields; and what the bound on the bulk says of them. -/
namespace Dg
/-- Each text, and one more. -/
def sizes : List (List UInt8) → Nat
  | [] => 0
  | t :: l => t.length + 1 + sizes l
theorem texts_sizes (l : List (List UInt8)) : (texts l).length ≤ 10 * sizes l := by
  induction l with
  | nil => simp [texts, sizes]
  | cons t l ih =>
    have := num_len t.length
    simp only [texts, text, sizes, List.length_append]
    omega
theorem sizes_len (l : List (List UInt8)) : l.length ≤ sizes l := by
  induction l with
  | nil => simp [sizes]
  | cons t l ih => simp only [sizes, List.length_cons]; omega
theorem sizes_le (l : List (List UInt8)) (t : List UInt8) (h : t ∈ l) : t.length ≤ sizes l := by
  induction l with
  | nil => cases h
  | cons x l ih =>
    simp only [sizes]
    rcases List.mem_cons.1 h with rfl | h
    · omega
    · have := ih h; omega
end Dg
namespace Go.Proofs.Ytbkpekpajeaacaa
open Go.RowKit Go.ChangeShapes Go.WideShapes Go.ChangeAt

section
variable {H : Type} {enc : TypeId × Value → H} {W : World} {n : Nat} {t : TypeId} {v : Value} {y : DataW H × List MemPlace}

theorem bulk_strs (ss : List ByteArray) : Dg.sizes (ss.map fun s => s.data.toList) ≤ Rows.uptoBulkAll (strs (H := H) ss) := by
  induction ss with
  | nil => simp [Dg.sizes]
  | cons s ss ih =>
    simp only [List.map_cons, Dg.sizes, strs, Rows.uptoBulkAll, Rows.uptoBulk]
    simp only [strs] at ih
    omega

theorem trod_txs (ht : Try.prog.underlying t = some (.slice 9)) (h : DataW.trod enc Try.prog W 0 (fun _ => true) true n t [v] = some y) : ∃ ls, TxAt W v ls ∧ Dg.sizes ls ≤ Rows.uptoBulk y.1 := by
  rcases open_strings ht Try.underlying9 (by kernel_rfl) h with ⟨hv, rfl⟩ | ⟨a, len, cap, ss, hv, _, hl, _, hlen, rfl, hc, _⟩
  · cases hv
    exact ⟨[], .inl ⟨_, _, rfl, rfl⟩, by simp [Dg.sizes]⟩
  · cases hv
    simp only [if_true] at hlen
    have hle : ((ss.take len).map fun s => s.data.toList).length = len := by simp; omega
    refine ⟨(ss.take len).map fun s => s.data.toList, ?_, ?_⟩
    · by_cases h0 : ss.length = 0
      · obtain rfl : len = 0 := by omega
        exact .inl ⟨_, _, rfl, by simp⟩
      · have h1 := hc 0 (by omega)
        obtain ⟨b, off, spot⟩ := a
        have hspot : spot = none := by simpa [Addr.add] using World.cell?_spot h1
        subst hspot
        refine .inr ⟨b, off, cap, by rw [hle], fun i hi => ?_⟩
        have hi' : i < len := by rw [← hle]; exact hi
        have h2 := hc i (by omega)
        have ha : (⟨b, off, none⟩ : Addr).add i = ⟨b, off + i, none⟩ := by unfold Addr.add; split <;> simp_all
        rw [ha] at h2
        rw [h2]
        have hg : ss.getD i ByteArray.empty = ss[i]'(by omega) := by simp [List.getD, List.getElem?_eq_getElem (show i < ss.length by omega)]
        rw [hg]
        simp
    · simp only [Rows.uptoBulk]
      have := bulk_strs (H := H) (ss.take len)
      omega
end
end Go.Proofs.Ytbkpekpajeaacaa
end
section
/- Opening what came in: slices of texts, with the reach of a process. -/
namespace Go.Proofs.Ytbkpekpajeaacaa
open Go.RowKit Go.ChangeShapes Go.WideShapes Go.ChangeAt

section
variable {H : Type} {enc : TypeId × Value → H} {W : World} {n : Nat} {t : TypeId} {v : Value} {y : DataW H × List MemPlace}

theorem trod_txsD (ht : Try.prog.underlying t = some (.slice 9)) (h : DataW.trod enc Try.prog W 0 (fun _ => true) true n t [v] = some y) :
    ∃ ls, TxAt W v ls ∧ (ls = [] ∨ ∃ sp, y.1 = .slice (ls.map fun l => .lit (.string l)) sp) := by
  rcases open_strings ht Try.underlying9 (by kernel_rfl) h with ⟨hv, rfl⟩ | ⟨a, len, cap, ss, hv, _, hl, _, hlen, rfl, hc, _⟩
  · cases hv
    exact ⟨[], .inl ⟨_, _, rfl, rfl⟩, .inl rfl⟩
  · cases hv
    simp only [if_true] at hlen
    have hle : ((ss.take len).map fun s => s.data.toList).length = len := by simp; omega
    refine ⟨(ss.take len).map fun s => s.data.toList, ?_, .inr ⟨strs (ss.drop len), ?_⟩⟩
    · by_cases h0 : ss.length = 0
      · obtain rfl : len = 0 := by omega
        exact .inl ⟨_, _, rfl, by simp⟩
      · have h1 := hc 0 (by omega)
        obtain ⟨b, off, spot⟩ := a
        have hspot : spot = none := by simpa [Addr.add] using World.cell?_spot h1
        subst hspot
        refine .inr ⟨b, off, cap, by rw [hle], fun i hi => ?_⟩
        have hi' : i < len := by rw [← hle]; exact hi
        have h2 := hc i (by omega)
        have ha : (⟨b, off, none⟩ : Addr).add i = ⟨b, off + i, none⟩ := by unfold Addr.add; split <;> simp_all
        rw [ha] at h2
        rw [h2]
        have hg : ss.getD i ByteArray.empty = ss[i]'(by omega) := by simp [List.getD, List.getElem?_eq_getElem (show i < ss.length by omega)]
        rw [hg]
        simp
    · simp only [strs, List.map_map]; rfl

theorem weights_in {P : Program} {e : TypeId} {d : DataW H} {es : List (DataW H)} (hd : d ∈ es) {m : Nat} (hn : m ∈ d.weights P e) : m ∈ DataW.weightsAll P e es := by
  induction es with
  | nil => cases hd
  | cons x es ih =>
    rw [DataW.weightsAll, List.mem_append]
    rcases List.mem_cons.1 hd with rfl | hd
    · exact .inl hn
    · exact .inr (ih hd)

theorem trod_txsR (ht : Try.prog.underlying t = some (.slice 9)) (h : DataW.trod enc Try.prog W 0 (fun _ => true) true n t [v] = some y)
    (hsz : (DataW.weights Try.prog t y.1).all (· ≤ reachBytes) = true) : ∃ ls, TxAt W v ls ∧ ls.length ≤ 8796093021952 ∧ ∀ l ∈ ls, l.length ≤ 140737488351232 := by
  obtain ⟨ls, hv, hd⟩ := trod_txsD ht h
  refine ⟨ls, hv, ?_⟩
  rcases hd with rfl | ⟨sp, hy⟩
  · simp
  · rw [hy] at hsz
    simp only [DataW.weights, ht, List.all_cons, Bool.and_eq_true, List.all_append] at hsz
    have hb : Try.prog.bytesOf 9 = 16 := by kernel_rfl
    refine ⟨?_, fun l hl => ?_⟩
    · have h1 := hsz.1
      rw [hb] at h1
      have h2 : ((ls.map fun l => (DataW.lit (.string l) : DataW H)).length + sp.length) * 16 ≤ reachBytes := of_decide_eq_true h1
      have h3 := reach_nat h2
      simp only [List.length_map] at h3
      omega
    · have h3 := hsz.2.1
      rw [List.all_eq_true] at h3
      have h4 := h3 l.length (weights_in (List.mem_map.2 ⟨l, hl, rfl⟩) (by simp [DataW.weights]))
      exact reach_nat (of_decide_eq_true h4)
end
/-- The reach of one argument, or of one field. -/
theorem sized_at {H : Type} {P : Program} {ts : List TypeId} {ds : List (DataW H)} {j : Nat} {t : TypeId} {d : DataW H} (h : (DataW.weightsEach P ts ds).all (· ≤ reachBytes) = true) (ht : ts[j]? = some t) (hd : ds[j]? = some d) : (DataW.weights P t d).all (· ≤ reachBytes) = true :=
  List.all_eq_true.2 fun n hn => List.all_eq_true.1 h n (DataW.weights_mem_each ht hd n hn)
end Go.Proofs.Ytbkpekpajeaacaa
end
