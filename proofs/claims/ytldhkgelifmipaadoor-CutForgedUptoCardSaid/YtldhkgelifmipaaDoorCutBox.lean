/- Boxes of three cells (a cutter, a block); a row of texts of the call's own: slices.Clone, one text more. -/
import Derived.Test.YtldhkgelifmipaaDoorCutFits
import Derived.Lib.SliceRun
import Derived.Lib.Walk
import Derived.Laws.AppendOwnNone
import Derived.Deep.Onto
import Derived.RangeFuncBox
import Derived.Lib.BufferMore
import Derived.Lib.AppendZerosOnto
namespace Go.Proofs.YtldhkgelifmipaaDoor
open Go.RowKit

/-- A block of three cells of its own. -/
def KBox (W : World) (B : Nat) (t : TypeId) (a b c : Value) : Prop := W.heap[B]? = some (.cells #[a, b, c] t (0, 0))
theorem KBox.lt {W : World} {B : Nat} {t : TypeId} {a b c : Value} (h : KBox W B t a b c) : B < W.heap.size := (Array.getElem?_eq_some_iff.1 h).1
theorem KBox.cells {W : World} {B : Nat} {t : TypeId} {a b c : Value} (h : KBox W B t a b c) : W.cell? ⟨B, 0, none⟩ = some a ∧ W.cell? ⟨B, 1, none⟩ = some b ∧ W.cell? ⟨B, 2, none⟩ = some c := by
  have e : W.heap[B]? = _ := h
  refine ⟨?_, ?_, ?_⟩ <;> simp [World.cell?, e]
theorem KBox.free {W : World} {B : Nat} {t : TypeId} {a b c : Value} (h : KBox W B t a b c) : W.frozen? ⟨B, 0, none⟩ = false ∧ W.frozen? ⟨B, 1, none⟩ = false ∧ W.frozen? ⟨B, 2, none⟩ = false := by
  have e : W.heap[B]? = _ := h
  refine ⟨?_, ?_, ?_⟩ <;> simp [World.frozen?, e]
theorem KBox.new (W : World) (t : TypeId) (a b c : Value) : KBox (W.alloc (.cells #[a, b, c] t)) W.heap.size t a b c := World.alloc_heap_new W _
theorem KBox.below {W W' : World} {B n : Nat} {t : TypeId} {a b c : Value} (h : KBox W B t a b c) (hb : Below n W W') (hn : B < n) : KBox W' B t a b c := (hb.block B hn).trans h
theorem KBox.kept {W W' : World} {B : Nat} {t : TypeId} {a b c : Value} (h : KBox W B t a b c) (hb : Below W.heap.size W W') : KBox W' B t a b c := h.below hb h.lt
theorem KBox.drew {W : World} {B : Nat} {t : TypeId} {a b c : Value} (h : KBox W B t a b c) : KBox W.drew B t a b c := h
theorem KBox.alloc {W : World} {B : Nat} {t : TypeId} {a b c : Value} (h : KBox W B t a b c) (o : Obj) : KBox (W.alloc o) B t a b c := h.below ((Below.refl _ _).alloc (Nat.le_refl _) o) h.lt
theorem KBox.grown {W W' : World} {B : Nat} {t : TypeId} {a b c : Value} {row : Option Nat} (h : KBox W B t a b c) (hg : W.grownBy W' row) (hr : some B ≠ row) : KBox W' B t a b c := (hg.block B h.lt hr).trans h
theorem heap_setK {W : World} {B k : Nat} {cs : Array Value} {t : TypeId} (h : W.heap[B]? = some (.cells cs t (0, 0))) (v : Value) : (W.setCell ⟨B, k, none⟩ v).heap[B]? = some (.cells (cs.setIfInBounds k v) t (0, 0)) := by
  obtain ⟨hlt, hk⟩ := Array.getElem?_eq_some_iff.1 h
  show (W.heap.modify B _)[B]? = _
  rw [Array.getElem?_eq_getElem (by rw [Array.size_modify]; exact hlt), Array.getElem_modify_self, hk]
  rfl
theorem KBox.set {W : World} {B : Nat} {t : TypeId} {a b c : Value} (h : KBox W B t a b c) (x y z : Value) : KBox (((W.setCell ⟨B, 0, none⟩ x).setCell ⟨B, 1, none⟩ y).setCell ⟨B, 2, none⟩ z) B t x y z := by
  have h1 := heap_setK (k := 0) h x
  have h2 := heap_setK (k := 1) h1 y
  have h3 := heap_setK (k := 2) h2 z
  exact h3
theorem KBox.set2 {W : World} {B : Nat} {t : TypeId} {a b c : Value} (h : KBox W B t a b c) (z : Value) : KBox (W.setCell ⟨B, 2, none⟩ z) B t a b z := heap_setK (k := 2) h z
theorem KBox.other {W : World} {B B' : Nat} {t : TypeId} {a b c : Value} (h : KBox W B t a b c) (hne : B ≠ B') (k : Nat) (v : Value) : KBox (W.setCell ⟨B', k, none⟩ v) B t a b c := (Below.heap_setCell W ⟨B', k, none⟩ v B hne).trans h
theorem below_set {W W' : World} {n B : Nat} (h : Below n W W') (hB : n ≤ B) (k : Nat) (v : Value) : Below n W (W'.setCell ⟨B, k, none⟩ v) := h.setCell (p := ⟨B, k, none⟩) hB v
theorem below_set3 {W W' : World} {n B : Nat} (h : Below n W W') (hB : n ≤ B) (x y z : Value) : Below n W (((W'.setCell ⟨B, 0, none⟩ x).setCell ⟨B, 1, none⟩ y).setCell ⟨B, 2, none⟩ z) := below_set (below_set (below_set h hB _ _) hB _ _) hB _ _

theorem info_txt : (Tryd.prog.info? 9).map (fun i => (i.zero, i.size, i.bytes)) = some (some (.string ⟨#[]⟩), 1, 16) := by kernel_rfl
theorem txs_one (ls : List (List UInt8)) : ∀ u ∈ ls.map tx, u.oneCell' = true := by
  intro u hu
  obtain ⟨x, _, rfl⟩ := List.mem_map.1 hu
  rfl
theorem txs_row {w : World} {b off : Nat} {ls : List (List UInt8)} (hc : ∀ i (h : i < ls.length), w.cell? ⟨b, off + i, none⟩ = some (tx ls[i])) :
    ∀ j u, (ls.map tx)[j]? = some u → w.cell? ((⟨b, off, none⟩ : Addr).add j) = some u := by
  intro j u hj
  have hlt : j < (ls.map tx).length := (List.getElem?_eq_some_iff.1 hj).1
  have ha : (⟨b, off, none⟩ : Addr).add j = ⟨b, off + j, none⟩ := by unfold Addr.add; split <;> simp_all
  rw [ha, hc j (by simpa using hlt), ← hj]
  simp at hlt
  simp [hlt]
/-- Where texts are read from, when they are appended. -/
theorem TxAt.src {w : World} {v : Value} {ls : List (List UInt8)} (h : TxAt w v ls) : (∃ cap, v = .slice none 0 cap ∧ ls = []) ∨ ∃ ad cap, v = .slice (some ad) ls.length cap ∧ ∀ j u, (ls.map tx)[j]? = some u → w.cell? (ad.add j) = some u := by
  rcases h with ⟨a, cap, rfl, rfl⟩ | ⟨b, off, cap, rfl, hc⟩
  · cases a with
    | none => exact .inl ⟨cap, rfl, rfl⟩
    | some ad => exact .inr ⟨ad, cap, rfl, fun j u h => absurd h (by simp)⟩
  · exact .inr ⟨_, cap, rfl, txs_row hc⟩

set_option maxHeartbeats 1000000 in
theorem csclone (v : Value) (ls : List (List UInt8)) (w : World) (hv : TxAt w v ls) (hl : ls.length ≤ 1099511627776) :
    Calls Tryd.prog 25 #[v] w fun e w' => ∃ u, e = .returned u ∧ w'.ownsRow w.heap.size 9 1 u ls.length (ls.map tx) ∧ Below w.heap.size w w' := by
  obtain ⟨i0, hi, hz0, hz1, hz2⟩ := info_parts info_txt
  rcases hv.src with ⟨cap, rfl, rfl⟩ | ⟨ad, cap, rfl, hcn⟩
  · have hq := fun W => Lib.run_eql_slice_nil_nil (P := Tryd.prog) W (t := 22) 0 cap Tryd.underlying22
    clear hv
    go_enter Tryd.func25, Tryd.ntmps25
    go_wp2_with (rw [hq])
    go_ret
    exact ⟨_, rfl, World.ownsRow_nil _ _ _ _, Below.refl _ _⟩
  · have hg : Below w.heap.size w (w.alloc (.cells #[] 9)) := (Below.refl _ _).alloc (Nat.le_refl _) _
    have HCN := Lib.hid (show ∀ j u, (ls.map tx)[j]? = some u → (w.alloc (.cells #[] 9)).cell? (ad.add j) = some u from fun j u hj => below_cell hg (hcn j u hj))
    have HOWN := Lib.hid (World.ownsRow_lit (base := w.heap.size) (e := 9) (size := 1) w #[] 0 (Nat.le_refl _) (by decide) rfl)
    have hq := fun W => Lib.run_eql_slice_some_nil (P := Tryd.prog) W (t := 22) ad ls.length cap Tryd.underlying22
    clear hcn hv
    go_enter Tryd.func25, Tryd.ntmps25
    go_wp2_with (first | rw [hq] | (at_builtin; refine wpList_append_own _ rfl _ _ 22 rfl w.heap.size 9 i0 (.string ⟨#[]⟩) 1 16 Tryd.underlying22 hi hz0 hz1 hz2 rfl (by decide) _ 0 [] rfl HOWN.out ad ls.length cap (ls.map tx) rfl (by simp) HCN.out (txs_one ls) (by unfold maxLen; omega) (by omega) (by simp) ?_; intro v' w2 hown2 hgrow _; have hbel2 := hg.grown hgrow (by simp) (fun k hk => (HOWN.out.lt k hk).1); have HO2 := Lib.hid hown2; have HB2 := Lib.hid hbel2; clear hown2 hbel2 hgrow))
    go_ret
    exact ⟨_, rfl, by simpa using HO2.out, HB2.out⟩
end Go.Proofs.YtldhkgelifmipaaDoor
