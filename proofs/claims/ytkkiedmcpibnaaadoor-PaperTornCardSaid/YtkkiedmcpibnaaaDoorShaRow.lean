/- Arrays of words in blocks of their own. -/
import Derived.Test.YtkkiedmcpibnaaaDoorShaRot
import Derived.Deep.WholeRow
import Derived.Laws.Tables
import Derived.Laws.CopyRow
namespace Sh
/-- What of a block's word j is there behind the first k bytes. -/
def part (b : List UInt8) (k j : Nat) : Nat := Dg.ofB (((b.take k).drop (4 * j)).take 4)
def parts (b : List UInt8) (k : Nat) : List Nat := (List.range 64).map (part b k)
theorem parts_len (b : List UInt8) (k : Nat) : (parts b k).length = 64 := by simp [parts]
theorem part_lt (b : List UInt8) (k j : Nat) : part b k j < 4294967296 := by
  have h := Dg.ofB_lt (((b.take k).drop (4 * j)).take 4)
  have h2 : 256 ^ (((b.take k).drop (4 * j)).take 4).length ≤ 256 ^ 4 := Nat.pow_le_pow_right (by decide) (List.length_take_le _ _)
  unfold part
  have : (256 : Nat) ^ 4 = 4294967296 := by decide
  omega
theorem part_small (b : List UInt8) (k : Nat) : part b k (k / 4) < 16777216 := by
  have h := Dg.ofB_lt (((b.take k).drop (4 * (k / 4))).take 4)
  have h3 : (((b.take k).drop (4 * (k / 4))).take 4).length ≤ 3 := by simp; omega
  have h2 : 256 ^ (((b.take k).drop (4 * (k / 4))).take 4).length ≤ 256 ^ 3 := Nat.pow_le_pow_right (by decide) h3
  unfold part
  have : (256 : Nat) ^ 3 = 16777216 := by decide
  omega
theorem parts_zero (b : List UInt8) : parts b 0 = List.replicate 64 0 := by
  rw [List.eq_replicate_iff]
  refine ⟨parts_len _ _, fun x hx => ?_⟩
  simp only [parts, List.mem_map] at hx
  obtain ⟨j, _, rfl⟩ := hx
  simp [part, Dg.ofB]
theorem part_here (b : List UInt8) (k : Nat) (h : k < b.length) : part b (k + 1) (k / 4) = part b k (k / 4) * 256 + b[k].toNat := by
  have e1 : (b.take (k + 1)).drop (4 * (k / 4)) = (b.take k).drop (4 * (k / 4)) ++ [b[k]] := by
    rw [List.take_succ_eq_append_getElem h, List.drop_append_of_le_length (by simp; omega)]
  have hl : ((b.take k).drop (4 * (k / 4))).length ≤ 3 := by simp; omega
  unfold part
  rw [e1]
  generalize (b.take k).drop (4 * (k / 4)) = X at *
  rw [List.take_of_length_le (l := X) (by omega), List.take_of_length_le (by simp; omega), Dg.ofB_snoc]
theorem part_there (b : List UInt8) (k j : Nat) (h : k < b.length) (hj : j ≠ k / 4) : part b (k + 1) j = part b k j := by
  unfold part
  by_cases h1 : 4 * j + 4 ≤ k
  · congr 1
    rw [List.take_succ_eq_append_getElem h, List.drop_append_of_le_length (by simp; omega), List.take_append_of_le_length (by simp; omega)]
  · have h2 : k + 1 ≤ 4 * j := by omega
    rw [List.drop_of_length_le (by simp; omega), List.drop_of_length_le (by simp; omega)]
theorem parts_step (b : List UInt8) (k : Nat) (h : k < b.length) : (parts b k).set (k / 4) (part b k (k / 4) * 256 + b[k].toNat) = parts b (k + 1) := by
  apply List.ext_getElem
  · simp [parts]
  · intro j h1 h2
    rw [List.getElem_set]
    by_cases e : k / 4 = j
    · subst e
      rw [if_pos rfl]
      simp only [parts, List.getElem_map, List.getElem_range]
      exact (part_here b k h).symm
    · rw [if_neg e]
      simp only [parts, List.getElem_map, List.getElem_range]
      exact (part_there b k j h (fun h => e h.symm)).symm
theorem parts_done (b : List UInt8) (h : b.length = 64) : parts b 64 = head b ++ List.replicate 48 0 := by
  have e : List.replicate 48 0 = (List.range 48).map (fun i => part b 64 (16 + i)) := by
    symm
    rw [List.eq_replicate_iff]
    refine ⟨by simp, fun x hx => ?_⟩
    simp only [List.mem_map] at hx
    obtain ⟨j, _, rfl⟩ := hx
    unfold part
    rw [List.drop_of_length_le (by simp; omega)]
    simp [Dg.ofB]
  have e2 : head b = (List.range 16).map (part b 64) := by
    unfold head
    apply List.map_congr_left
    intro j _
    have e3 : b.take 64 = b := List.take_of_length_le (by omega)
    unfold part word
    rw [e3]
  rw [e, e2, parts]
  have : List.range 64 = List.range 16 ++ (List.range 48).map (16 + ·) := by decide
  rw [this, List.map_append, List.map_map]
  rfl

theorem ext_succ (n : Nat) : ∀ w, ext (n + 1) w = ext n w ++ [next (ext n w)] := by
  induction n with
  | zero => intro w; rfl
  | succ n ih => intro w; rw [ext, ih (w ++ [next w])]; rfl
theorem head_len (b : List UInt8) : (head b).length = 16 := by simp [head]
theorem ext_len (n : Nat) : ∀ w, (ext n w).length = w.length + n := by
  induction n with
  | zero => intro w; rfl
  | succ n ih => intro w; rw [ext, ih]; simp; omega
theorem sched_len (b : List UInt8) : (sched b).length = 64 := by rw [sched, ext_len, head_len]
/-- The row behind m words more. -/
def filled (b : List UInt8) (m : Nat) : List Nat := ext m (head b) ++ List.replicate (48 - m) 0
theorem filled_len (b : List UInt8) (m : Nat) (h : m ≤ 48) : (filled b m).length = 64 := by rw [filled, List.length_append, ext_len, head_len]; simp; omega
theorem filled_step (b : List UInt8) (m : Nat) (h : m < 48) : (filled b m).set (m + 16) (next (ext m (head b))) = filled b (m + 1) := by
  have e : List.replicate (48 - m) 0 = 0 :: List.replicate (48 - (m + 1)) 0 := by
    obtain ⟨j, hj⟩ : ∃ j, 48 - m = j + 1 := ⟨48 - m - 1, by omega⟩
    rw [hj, List.replicate_succ]
    congr 2
    omega
  have hl : (ext m (head b)).length = m + 16 := by rw [ext_len, head_len]; omega
  rw [filled, filled, ext_succ, e, List.set_append_right _ _ (by omega), hl, Nat.sub_self, List.set_cons_zero, List.append_assoc]
  rfl
theorem filled_at (b : List UInt8) (m j : Nat) (h : j < m + 16) (h48 : m ≤ 48) : (filled b m)[j]'(by rw [filled_len b m h48]; omega) = (ext m (head b)).getD j 0 := by
  have hl : (ext m (head b)).length = m + 16 := by rw [ext_len, head_len]; omega
  simp only [filled]
  rw [List.getElem_append_left (by omega)]
  simp [List.getD, List.getElem?_eq_getElem (show j < (ext m (head b)).length by omega)]
theorem word_lt (b : List UInt8) (j : Nat) : word b j < 4294967296 := by
  have h := Dg.ofB_lt ((b.drop (4 * j)).take 4)
  have h2 : 256 ^ ((b.drop (4 * j)).take 4).length ≤ 256 ^ 4 := Nat.pow_le_pow_right (by decide) (List.length_take_le _ _)
  unfold word
  have : (256 : Nat) ^ 4 = 4294967296 := by decide
  omega
theorem add_lt (a b : Nat) : add a b < 4294967296 := Nat.mod_lt _ (by decide)
theorem ext_lt (n : Nat) : ∀ w : List Nat, (∀ x ∈ w, x < 4294967296) → ∀ x ∈ ext n w, x < 4294967296 := by
  induction n with
  | zero => intro w h; exact h
  | succ n ih =>
    intro w h
    rw [ext]
    apply ih
    intro x hx
    rcases List.mem_append.1 hx with hx | hx
    · exact h x hx
    · rw [List.mem_singleton.1 hx]; exact add_lt _ _
theorem head_lt (b : List UInt8) : ∀ x ∈ head b, x < 4294967296 := by
  intro x hx
  simp only [head, List.mem_map] at hx
  obtain ⟨j, _, rfl⟩ := hx
  exact word_lt b j
theorem sched_lt (b : List UInt8) : ∀ x ∈ sched b, x < 4294967296 := ext_lt 48 _ (head_lt b)
theorem getD_lt (w : List Nat) (h : ∀ x ∈ w, x < 4294967296) (j : Nat) : w.getD j 0 < 4294967296 := by
  by_cases hj : j < w.length
  · rw [List.getD, List.getElem?_eq_getElem hj]; exact h _ (List.getElem_mem hj)
  · rw [List.getD, List.getElem?_eq_none (by omega)]; decide
end Sh
namespace Go.Proofs.YtkkiedmcpibnaaaDoor
open Go.RowKit

/-- The block B holds the words ws. -/
def ARow (W : World) (B : Nat) (t : TypeId) (ws : List Nat) : Prop := W.heap[B]? = some (.cells (ws.map uv).toArray t (0, 0))
theorem ARow.lt {W : World} {B : Nat} {t : TypeId} {ws : List Nat} (h : ARow W B t ws) : B < W.heap.size := (Array.getElem?_eq_some_iff.1 h).1
theorem ARow.cell {W : World} {B : Nat} {t : TypeId} {ws : List Nat} (h : ARow W B t ws) (i : Nat) (hi : i < ws.length) : W.cell? ⟨B, i, none⟩ = some (uv ws[i]) := by
  have e : W.heap[B]? = _ := h
  simp [World.cell?, e, hi]
theorem ARow.frozen {W : World} {B : Nat} {t : TypeId} {ws : List Nat} (h : ARow W B t ws) (i : Nat) : W.frozen? ⟨B, i, none⟩ = false := by
  have e : W.heap[B]? = _ := h
  simp [World.frozen?, e]
theorem ARow.below {W W' : World} {B n : Nat} {t : TypeId} {ws : List Nat} (h : ARow W B t ws) (hb : Below n W W') (hn : B < n) : ARow W' B t ws := (hb.block B hn).trans h
theorem ARow.kept {W W' : World} {B : Nat} {t : TypeId} {ws : List Nat} (h : ARow W B t ws) (hb : Below W.heap.size W W') : ARow W' B t ws := h.below hb h.lt
theorem ARow.alloc {W : World} {B : Nat} {t : TypeId} {ws : List Nat} (h : ARow W B t ws) (o : Obj) : ARow (W.alloc o) B t ws := h.kept ((Below.refl _ _).alloc (Nat.le_refl _) o)
theorem ARow.set {W : World} {B : Nat} {t : TypeId} {ws : List Nat} (h : ARow W B t ws) (i v : Nat) : ARow (W.setCell ⟨B, i, none⟩ (uv v)) B t (ws.set i v) := by
  obtain ⟨hlt, hk⟩ := Array.getElem?_eq_some_iff.1 h
  show (W.heap.modify B _)[B]? = _
  rw [Array.getElem?_eq_getElem (by rw [Array.size_modify]; exact hlt), Array.getElem_modify_self, hk]
  simp [List.map_set]
theorem ARow.other {W : World} {B : Nat} {t : TypeId} {ws : List Nat} (h : ARow W B t ws) (C i : Nat) (v : Value) (hne : B ≠ C) : ARow (W.setCell ⟨C, i, none⟩ v) B t ws := (Below.heap_setCell W ⟨C, i, none⟩ v B hne).trans h
theorem ARow.new (W : World) (t : TypeId) (ws : List Nat) : ARow (W.alloc (.cells (ws.map uv).toArray t)) W.heap.size t ws := heap_alloc_last W _
theorem ARow.draw {W : World} {B : Nat} {t : TypeId} {ws : List Nat} (h : ARow W B t ws) (n : Nat) : ARow (W.drewN n) B t ws := h

theorem ARow.heap {W : World} {B : Nat} {t : TypeId} {ws : List Nat} (h : ARow W B t ws) : W.heap[B]? = some (.cells (ws.map uv).toArray t (0, 0)) := h
/-- A whole array is loaded. -/
theorem load_arow {P : Program} {ops : Array Oper} {rest : List Oper} {o : Oper} {a : Act} {w : World} {Q : Exit → Act → World → Prop} (hgd : o.guard = none) (ty : TypeId) (x : Operand) (ho : o.op = .load ty x)
    (g : Nat) (ws : List Nat) (hx : a.eval x = .pointer (some ⟨g, 0, none⟩)) (hg : ARow w g ty ws) (n : Nat) (e : TypeId)
    (hu : P.underlying ty = some (.array n e)) (hi : (P.info? ty).map (·.size) = some n) (hn : ws.length = n)
    (h : wpList P ops Q rest (a.put o.dst (.agg (ws.map uv).toArray)) w) : wpList P ops Q (o :: rest) a w :=
  wpList_load_row hgd ty x ho g hx ty _ (0, 0) _ hg hu rfl (by rw [hi]; simp [hn]) h
/-- A whole array is stored. -/
theorem store_arow {P : Program} {ops : Array Oper} {rest : List Oper} {o : Oper} {a : Act} {w : World} {Q : Exit → Act → World → Prop} (hgd : o.guard = none) (ty : TypeId) (x y : Operand) (ho : o.op = .store ty x y)
    (g : Nat) (ws us : List Nat) (hx : a.eval x = .pointer (some ⟨g, 0, none⟩)) (hy : a.eval y = .agg (us.map uv).toArray) (hg : ARow w g ty ws) (n : Nat)
    (hi : (P.info? ty).map (·.size) = some n) (hw : ws.length = n) (hn : us.length = n)
    (h : ∀ w', ARow w' g ty us → (∀ m c, m ≤ g → Below m c w → Below m c w') → (∀ B t vs, B ≠ g → ARow w B t vs → ARow w' B t vs) → wpList P ops Q rest (a.put o.dst undef) w') : wpList P ops Q (o :: rest) a w :=
  wpList_store_row hgd ty x y ho g _ hx hy ty _ hg (by rw [hi]; simp [hn]) (by simp [hw, hn]) (by simp [Value.oneCell'])
    (h _ (setRow_heap w g _ _ ty (0, 0) hg)
      (fun _ _ hm hb => ⟨hb.os, hb.tape, hb.output, by simpa using hb.size, fun k hk => (setRow_other w g k _ (by omega)).trans (hb.block k hk)⟩)
      (fun B _ _ hB hr => (setRow_other w g B _ hB).trans hr))
theorem info64 : (Tryd.prog.info? 80).map (·.size) = some 64 := by kernel_rfl
theorem info8 : (Tryd.prog.info? 63).map (·.size) = some 8 := by kernel_rfl
end Go.Proofs.YtkkiedmcpibnaaaDoor
