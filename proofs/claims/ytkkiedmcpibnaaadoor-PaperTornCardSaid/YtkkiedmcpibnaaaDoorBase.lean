/- What all walks have in common: texts as values, worlds that only grow, slices whose elements are read. -/
import Derived.Test.YtkkiedmcpibnaaaDoorRows
import Derived.WalkKit
import Derived.WalkSmall
import Derived.WalkSpells
import Derived.WalkLawsBesides
import Derived.Laws.BytesArg
import Derived.Lib.Hide
import Derived.Deep.QuietTactic
import Derived.BigQuiet
import Derived.Lib.Strings
namespace Go.Proofs.YtkkiedmcpibnaaaDoor
open Go.RowKit

def bv (y : UInt8) : Value := .int .u8 (y.toNat : Int)
/-- A text as a value. -/
abbrev tx (l : List UInt8) : Value := .string ⟨l.toArray⟩

theorem strOfNums_bytes (l : List UInt8) : strOfNums (l.map fun y => (y.toNat : Int)) = ⟨l.toArray⟩ := by
  unfold strOfNums
  congr 2
  rw [List.map_map]
  conv => rhs; rw [← List.map_id l]
  apply List.map_congr_left
  intro x _
  simp

theorem grow_trans {a b c : World} (h : Below a.heap.size a b) (k : Below b.heap.size b c) : Below a.heap.size a c := h.trans (k.mono h.size)
theorem grow_draws (a : World) (n : Nat) : Below a.heap.size a (a.drewN n) := below_drewN (Below.refl _ _) n
theorem drewN_ex {w W : World} (h : ∃ n, W = w.drewN n) (k : Nat) : ∃ n, W.drewN k = w.drewN n := by obtain ⟨n, rfl⟩ := h; exact ⟨_, by rw [World.drewN_drewN]⟩

theorem below_cell {w w' : World} (h : Below w.heap.size w w') {a : Addr} {v : Value} (hc : w.cell? a = some v) : w'.cell? a = some v :=
  (h.cell (World.block_lt_of_cell? w a hc)).trans hc

/-- A new block of one cell. -/
theorem new_cell (W : World) (n : Nat) (hn : n = W.heap.size) (v : Value) (t : TypeId) : ∀ j u, [v][j]? = some u → (W.alloc (.cells #[v] t)).cell? ((⟨n, 0, none⟩ : Addr).add j) = some u := by
  intro j u hj
  match j, hj with
  | 0, hj =>
    simp at hj
    subst hj hn
    simp [Addr.add, World.cell?_alloc_at]

/-- The slice v holds the cells cs in the world w, k cells an element. -/
def FlatAt (w : World) (v : Value) (k : Nat) (cs : List Value) : Prop :=
  (∃ a cap, v = .slice a 0 cap ∧ cs = []) ∨ ∃ b off n cap, v = .slice (some ⟨b, off, none⟩) n cap ∧ cs.length = n * k ∧ ∀ i (h : i < cs.length), w.cell? ⟨b, off + i, none⟩ = some cs[i]

theorem FlatAt.below {w w' : World} {v : Value} {k : Nat} {cs : List Value} (h : FlatAt w v k cs) (hb : Below w.heap.size w w') : FlatAt w' v k cs := by
  rcases h with h | ⟨b, off, n, cap, hv, hl, hc⟩
  · exact .inl h
  · exact .inr ⟨b, off, n, cap, hv, hl, fun i hi => below_cell hb (hc i hi)⟩

theorem FlatAt.len {w : World} {v : Value} {k n : Nat} {cs : List Value} (h : FlatAt w v k cs) (hn : cs.length = n * k) (hk : 0 < k) : ∃ a cap, v = .slice a n cap := by
  rcases h with ⟨a, cap, rfl, rfl⟩ | ⟨b, off, m, cap, rfl, hl, _⟩
  · have : n = 0 := by
      rcases Nat.eq_zero_or_pos n with h | h
      · exact h
      · have := Nat.mul_pos h hk; simp at hn; omega
    subst this
    exact ⟨_, _, rfl⟩
  · have : m = n := Nat.eq_of_mul_eq_mul_right hk (by rw [← hl, hn])
    subst this
    exact ⟨_, _, rfl⟩

/-- Where there is an element, the slice's address is plain, and its cells are at hand. -/
theorem FlatAt.at {w : World} {v : Value} {k n : Nat} {cs : List Value} (h : FlatAt w v k cs) (hn : cs.length = n * k) (hk : 0 < k) (h0 : 0 < n) :
    ∃ b off cap, v = .slice (some ⟨b, off, none⟩) n cap ∧ ∀ i (h : i < cs.length), w.cell? ⟨b, off + i, none⟩ = some cs[i] := by
  rcases h with ⟨a, cap, rfl, rfl⟩ | ⟨b, off, m, cap, rfl, hl, hc⟩
  · have := Nat.mul_pos h0 hk; simp at hn; omega
  · have : m = n := Nat.eq_of_mul_eq_mul_right hk (by rw [← hl, hn])
    subst this
    exact ⟨_, _, _, rfl, hc⟩

theorem FlatAt.own {w : World} {base n k : Nat} {t : TypeId} {v : Value} {cs : List Value} (h : w.ownsRow base t k v n cs) : FlatAt w v k cs := by
  obtain ⟨hl, h⟩ := h
  rcases h with ⟨rfl, rfl⟩ | ⟨g, cap, cur, rfl, _, hg, _, _, _, ht⟩
  · exact .inl ⟨_, _, rfl, List.length_eq_zero_iff.1 (by rw [hl]; simp)⟩
  · refine .inr ⟨g, 0, n, cap, rfl, hl, fun i hi => ?_⟩
    have e : (cur.toList.take (n * k))[i]? = some cs[i] := by rw [ht]; simp [hi]
    rw [List.getElem?_take_of_lt (by omega)] at e
    simp only [World.cell?, hg, Nat.zero_add]
    simpa using e

/-- Numbers, and lists of them, as values. -/
def iv (n : Int) : Value := .int .i64 n
def ints (l : List Int) : List Value := l.map iv
theorem ints_len (l : List Int) : (ints l).length = l.length * 1 := by simp [ints]
theorem ints_at (l : List Int) (k : Nat) (h : k < l.length) : (ints l)[k]'(by simpa [ints] using h) = iv l[k] := by simp [ints]
/-- A list of numbers, opened. -/
theorem flat_ints {w w' : World} {s : Value} {l : List Int} (h : FlatAt w s 1 (ints l)) (hb : Below w.heap.size w w') :
    (l = [] ∧ ∃ a cap, s = .slice a 0 cap) ∨ (0 < l.length ∧ ∃ b off cap, s = .slice (some ⟨b, off, none⟩) l.length cap ∧ ∀ k (hk : k < l.length), w'.cell? ⟨b, off + k, none⟩ = some (iv l[k])) := by
  by_cases h0 : l.length = 0
  · have e : l = [] := List.length_eq_zero_iff.1 h0
    obtain ⟨a, cap, rfl⟩ := h.len (n := l.length) (ints_len l) (by omega)
    subst e
    exact .inl ⟨rfl, _, _, rfl⟩
  · obtain ⟨b, off, cap, rfl, hc⟩ := h.at (n := l.length) (ints_len l) (by omega) (by omega)
    refine .inr ⟨by omega, b, off, cap, rfl, fun k hk => ?_⟩
    have := below_cell hb (hc k (by rw [ints_len]; omega))
    rw [this, ints_at l k hk]

/-- The bytes of a text. -/
theorem ba_zero (b : UInt8) (r : List UInt8) (h : 0 < (ByteArray.mk (b :: r).toArray).size) : (ByteArray.mk (b :: r).toArray)[0]'h = b := rfl
theorem ba_tail (b : UInt8) (r : List UInt8) : (ByteArray.mk (b :: r).toArray).extract 1 (r.length + 1) = ByteArray.mk r.toArray := by
  apply ByteArray.ext
  apply Array.toList_inj.1
  rw [Lib.extract_data]
  simp
theorem ba_drop (r : List UInt8) (k : Nat) : (ByteArray.mk r.toArray).extract k r.length = ByteArray.mk (r.drop k).toArray := by
  apply ByteArray.ext
  apply Array.toList_inj.1
  rw [Lib.extract_data]
  simp [List.take_of_length_le]
theorem w64_byte (b : UInt8) : wrap64 (b.toNat : Int) = (b.toNat : Int) := by have := b.toNat_lt; unfold wrap64; omega
theorem byte_at (r : List UInt8) (k : Nat) (h : k < r.length) : (ByteArray.mk r.toArray)[k]'h = r[k] := rfl

end Go.Proofs.YtkkiedmcpibnaaaDoor
