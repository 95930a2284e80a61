/- Mark, DigRText, DigRRow, in one. -/
import Derived.Test.YtbkpekpajeaacaaRows
import Derived.Test.YtbkpekpajeaacaaGDig
import Derived.WalkKit
import Derived.WalkSpells
import Derived.WalkLawsBesides
import Derived.Laws.BytesArg
import Derived.Lib.Hide
import Derived.Lib.AppendStr
import Derived.Laws.IdiomStrings
import Derived.Laws.CopyRow
section
/- A []byte that the call itself made of a text (the model marks one place behind its cells), and what is appended to it. -/
namespace Go.Proofs.Ytbkpekpajeaacaa
open Go.RowKit

/-- The slice v, in a block of the call's own (from base on), holds the bytes l; no cell of the block is frozen. -/
def MarkRow (w : World) (base : Nat) (e : TypeId) (v : Value) (l : List UInt8) : Prop :=
  ∃ g cap cur fz, v = .slice (some ⟨g, 0, none⟩) l.length cap ∧ base ≤ g ∧ w.heap[g]? = some (.cells cur e fz) ∧ (fz.2 ≤ fz.1 ∨ cap ≤ fz.1) ∧ l.length ≤ cap ∧ cap ≤ maxLen ∧ cur.size = cap ∧ cur.toList.take l.length = l.map bv

theorem MarkRow.lt {w : World} {base : Nat} {e : TypeId} {v : Value} {l : List UInt8} (h : MarkRow w base e v l) : ∀ k, v.ownBlock = some k → base ≤ k ∧ k < w.heap.size := by
  obtain ⟨g, cap, cur, fz, rfl, hb, hg, _⟩ := h
  intro k hk
  simp only [Value.ownBlock, Option.some.injEq] at hk
  subst hk
  exact ⟨hb, (Array.getElem?_eq_some_iff.1 hg).1⟩

theorem MarkRow.below {w w' : World} {base : Nat} {e : TypeId} {v : Value} {l : List UInt8} (h : MarkRow w base e v l) (hb : Below w.heap.size w w') : MarkRow w' base e v l := by
  obtain ⟨g, cap, cur, fz, rfl, hg0, hg, r⟩ := h
  exact ⟨g, cap, cur, fz, rfl, hg0, by rw [hb.block g (Array.getElem?_eq_some_iff.1 hg).1]; exact hg, r⟩

theorem MarkRow.cell {w : World} {base : Nat} {e : TypeId} {v : Value} {l : List UInt8} (h : MarkRow w base e v l) :
    ∃ g cap, v = .slice (some ⟨g, 0, none⟩) l.length cap ∧ ∀ i, i < l.length → w.cell? ⟨g, 0 + i, none⟩ = some (.int .u8 ((l.map fun y => (y.toNat : Int)).getD i 0)) := by
  obtain ⟨g, cap, cur, fz, rfl, _, hg, _, hl, _, hs, ht⟩ := h
  refine ⟨g, cap, rfl, fun i hi => ?_⟩
  have e1 : (cur.toList.take l.length)[i]? = some (bv l[i]) := by rw [ht]; simp [hi]
  rw [List.getElem?_take_of_lt hi] at e1
  simp only [World.cell?, hg, Nat.zero_add]
  rw [show ((l.map fun y => (y.toNat : Int)).getD i 0) = (l[i].toNat : Int) by simp [List.getD, hi]]
  simpa [bv] using e1

theorem strCells_tx (l : List UInt8) : Lib.strCells ⟨l.toArray⟩ = l.map bv := rfl

/-- '[]byte(s)'. -/
theorem MarkRow.made {P : Program} (w : World) (src dst e : TypeId) (l : List UInt8) (hl : l.length ≤ maxLen) (hs : P.underlying src = some .string) (hd : P.underlying dst = some (.slice e)) (he : P.underlying e = some (.int .u8)) :
    ∃ v w', (convert src dst (tx l)).run P w = .ok v w' ∧ MarkRow w' w.heap.size e v l ∧ Below w.heap.size w w' := by
  have hz : (ByteArray.mk l.toArray).size = l.length := rfl
  have hge := grownCap_ge w l.length 0 e
  have hcm := grownCap_le_maxLen w l.length 0 e hl
  have hsz : (bytesRow (ByteArray.mk l.toArray) (grownCap w l.length 0 e)).size = grownCap w l.length 0 e := by
    simp only [bytesRow, Array.size_append, Array.size_map, Array.size_replicate, List.size_toArray, hz]
    omega
  refine ⟨_, _, run_bytes_of_string w src dst e _ hs hd he, ⟨w.heap.size, grownCap w l.length 0 e, bytesRow (ByteArray.mk l.toArray) (grownCap w l.length 0 e), _, rfl, Nat.le_refl _, heap_alloc_new w.drew _, .inr ?_, hge, hcm, hsz, ?_⟩, ?_⟩
  · show _ ≤ (bytesRow (ByteArray.mk l.toArray) (grownCap w l.length 0 e)).size
    omega
  · simp [bytesRow, bv]
  · exact ((Below.refl _ _).drew).alloc (Nat.le_refl _) _

/-- Storing cells into such a block. -/
theorem store_cells_mark (P : Program) (g o : Nat) (t : TypeId) (fz : Nat × Nat) : ∀ (vs : List Value) (i : Nat) (cur : Array Value) (w : World), w.heap[g]? = some (.cells cur t fz) → (fz.2 ≤ fz.1 ∨ cur.size ≤ fz.1) → o + i + vs.length ≤ cur.size →
    (∀ v ∈ vs, v.oneCell' = true) → (storeCells ⟨g, o, none⟩ vs i).run P w = .ok () (w.setRow g (cur.toList.take (o + i) ++ vs ++ cur.toList.drop (o + i + vs.length)).toArray) := by
  intro vs
  induction vs with
  | nil =>
    intro i cur w hg _ _ _
    have e : (cur.toList.take (o + i) ++ [] ++ cur.toList.drop (o + i + ([] : List Value).length)).toArray = cur := by simp
    rw [e, setRow_self w g cur t fz hg]
    rfl
  | cons v rest ih =>
    intro i cur w hg hf hl h1
    simp only [List.length_cons] at hl
    have hi : o + i < cur.size := by omega
    have ha : (⟨g, o, none⟩ : Addr).add i = ⟨g, o + i, none⟩ := by unfold Addr.add; split <;> simp_all
    have hc : w.cell? ⟨g, o + i, none⟩ = some cur[o + i] := by simp [World.cell?, hg, hi]
    have hz : w.frozen? ⟨g, o + i, none⟩ = false := by
      obtain ⟨lo, up⟩ := fz
      simp only [World.frozen?, hg, Bool.and_eq_false_iff, decide_eq_false_iff_not]
      simp only at hf
      omega
    have hs : (store ((⟨g, o, none⟩ : Addr).add i) v).run P w = .ok () (w.setRow g (cur.setIfInBounds (o + i) v)) := by
      rw [ha, run_store P w _ v _ (h1 v (by simp)), hc]
      simp [hz, setCell_eq_setRow w g (o + i) cur t fz v hg]
    have hr := ih (i + 1) (cur.setIfInBounds (o + i) v) (w.setRow g (cur.setIfInBounds (o + i) v)) (setRow_heap w g cur _ t _ hg) (by simpa using hf) (by simp; omega) (fun x hx => h1 x (by simp [hx]))
    simp only [storeCells, Sem.run_bind, hs, Result.andThen_ok, hr, setRow_setRow]
    congr 3
    have e := list_seg_step cur.toList (o + i) v rest (by simp; omega)
    simpa [Array.toList_setIfInBounds, Nat.add_assoc] using e

/-- 'append(b, s...)'. -/
theorem MarkRow.appended {P : Program} {w : World} {base : Nat} {e : TypeId} {v : Value} {l : List UInt8} (h : MarkRow w base e v l) (t u ty : TypeId) (i : TypeInfo) (ht : P.underlying t = some (.slice e)) (hu : P.underlying u = some .string)
    (hi : P.info? e = some i) (hz : i.zero = some (.int .u8 0)) (h1 : i.size = 1) (hy : i.bytes = 1) (s : List UInt8) (hs : l.length + s.length ≤ 140737488355328) (hbase : base ≤ w.heap.size) :
    ∃ v' w', (Builtin.append_ #[t, u] ty #[v, tx s]).run P w = .ok v' w' ∧ MarkRow w' base e v' (l ++ s) ∧ w.grownBy w' v.ownBlock := by
  obtain ⟨g, cap, cur, fz, rfl, hb, hg, hf, hl, hm, hsz, htk⟩ := h
  have hss : (ByteArray.mk s.toArray).size = s.length := rfl
  have hml : l.length + s.length ≤ maxLen := by unfold maxLen; omega
  by_cases hroom : l.length + s.length ≤ cap
  · have hfst := Lib.run_firstCells_string (P := P) w 1 ⟨s.toArray⟩
    have hst := store_cells_mark P g l.length e fz (Lib.strCells ⟨s.toArray⟩) 0 cur w hg (by rw [hsz]; exact hf) (by rw [Lib.strCells_length, hss]; omega) (Lib.strCells_oneCell _)
    rw [Lib.strCells_length, hss] at hst
    simp only [Nat.add_zero] at hst
    refine ⟨.slice (some ⟨g, 0, none⟩) (l ++ s).length cap, w.setRow g (cur.toList.take l.length ++ Lib.strCells ⟨s.toArray⟩ ++ cur.toList.drop (l.length + s.length)).toArray, ?_, ⟨g, cap, _, fz, rfl, hb, setRow_heap w g cur _ e _ hg, hf, by simpa using hroom, hm, ?_, ?_⟩, ⟨rfl, rfl, rfl, by simp, fun k _ hk => setRow_other w g k _ (fun e => hk (by simp [Value.ownBlock, e]))⟩⟩
    · rw [hss] at hfst
      simp [Builtin.append_, run_underlying ht, run_underlying hu, sizeOf, typeInfo, hi, h1, Builtin.lenOf, hss, hroom, hfst, Addr.add_lit, hst]
    · simp [Lib.strCells_length, hss]; omega
    · rw [htk, strCells_tx]
      simp only [List.map_append]
      exact List.take_left' (by simp)
  · have hcell : ∀ j x, (l.map bv)[j]? = some x → w.cell? ((⟨g, 0, none⟩ : Addr).add j) = some x := by
      intro j x hj
      have ha : (⟨g, 0, none⟩ : Addr).add j = ⟨g, j, none⟩ := by unfold Addr.add; split <;> simp_all
      rw [ha]
      rw [← htk] at hj
      simp only [World.cell?, hg]
      rw [List.getElem?_take] at hj
      split at hj
      · simpa using hj
      · cases hj
    have hr := Lib.run_append_grow_string (P := P) w t u ty e i (.int .u8 0) ht hu hi hz ⟨g, 0, none⟩ l.length cap (l.map bv) (by rw [h1]; simp) hcell ⟨s.toArray⟩ (by rw [hss]; omega) (by rw [hss]; omega)
      (by rw [hy, hss]; exact growslice_fits (by omega) (by omega))
    rw [hss] at hr
    have hge := grownCap_ge w (l.length + s.length) cap e
    have hcm := grownCap_le_maxLen w (l.length + s.length) cap e hml
    refine ⟨_, _, hr, ⟨w.heap.size, grownCap w (l.length + s.length) cap e, _, (0, 0), by simp, hbase, heap_alloc_new w.drew _, .inl (Nat.le_refl _), by simpa using hge, hcm, ?_, ?_⟩, ⟨rfl, rfl, rfl, by simp, fun k hk _ => heap_alloc_old w.drew _ hk⟩⟩
    · have hz1 : (Value.int IntKind.u8 0).cells.size = 1 := rfl
      simp only [Array.size_append, List.size_toArray, size_zeroCells, hz1, List.length_map, Lib.strCells_length, hss]
      omega
    · rw [strCells_tx]
      simp only [Array.toList_append, List.map_append]
      exact List.take_left' (by simp)
/-- 'append(b, s...)', for the walk. -/
theorem wpList_append_mark {P : Program} {w : World} {ops : Array Oper} {rest : List Oper} {o : Oper} {a : Act} {Q : Exit → Act → World → Prop} (hgd : o.guard = none) (sl x : Operand) (t u : TypeId)
    (ho : o.op = .call { callee := .builtin .append, args := #[sl, x], argTypes := #[t, u] }) (base : Nat) (e : TypeId) (i : TypeInfo) (ht : P.underlying t = some (.slice e)) (hu : P.underlying u = some .string)
    (hi : P.info? e = some i) (hz : i.zero = some (.int .u8 0)) (h1 : i.size = 1) (hy : i.bytes = 1) (v : Value) (l s : List UInt8) (hv : a.eval sl = v) (h : MarkRow w base e v l) (hx : a.eval x = tx s)
    (hs : l.length + s.length ≤ 140737488355328) (hbase : base ≤ w.heap.size)
    (k : ∀ v' w', MarkRow w' base e v' (l ++ s) → w.grownBy w' v.ownBlock → wpList P ops Q rest (a.put o.dst v') w') : wpList P ops Q (o :: rest) a w := by
  obtain ⟨v', w', hr, h2, h3⟩ := h.appended t u o.type i ht hu hi hz h1 hy s hs hbase
  refine wpList_plain hgd fun K hK => ?_
  unfold Oper.wp execOp
  simp only [ho, resolve, invoke, builtin, Sem.run_bind, Sem.run_pure, Result.andThen_ok, List.map_toArray, List.map_cons, List.map_nil, hv, hx, hr]
  exact hK _ _ (k v' w' h2 h3)
end Go.Proofs.Ytbkpekpajeaacaa
end
section
/- The contracts of the document's Num and Text. -/
namespace Go.Proofs.Ytbkpekpajeaacaa
open Go.RowKit
attribute [local go_sem] ByteArray.mk_append_mk

set_option maxHeartbeats 1000000 in
theorem rnum_any (n : Nat) (hn : n < 18446744073709551616) (w : World) :
    Calls Try.prog 41 #[.int .u64 n] w fun e w' => e = .returned (tx (Dg.num n)) ∧ Below w.heap.size w w' := by
  go_enter Try.func41, Try.ntmps41
  go_wp2_with fail
  go_loopw [0, 3] (fun v s wr => ∃ (m k : Nat) (l : List UInt8), v = .int .u64 m ∧ s = tx l ∧ k ≤ 8 ∧ m < 256 ^ k ∧ l.length ≤ 8 - k ∧ Dg.bytes n = Dg.bytesF k m ++ l ∧ Below w.heap.size w wr) (fun v _ _ => (intOf v).toNat)
  case atStart => exact ⟨n, 8, [], rfl, rfl, by omega, by omega, by simp, by simp [Dg.bytes], Below.refl _ _⟩
  case round =>
    obtain ⟨m, k, l, rfl, rfl, hk, hm, hl, hb, hbel⟩ := hrel
    by_cases h0 : 0 < m
    · obtain ⟨j, rfl⟩ : ∃ j, k = j + 1 := by
        rcases Nat.eq_zero_or_pos k with h | h
        · subst h; simp at hm; omega
        · exact ⟨k - 1, by omega⟩
      have hc := conv_one wr (UInt8.ofNat (m % 256)) 5 1 ((m : Int) % 256) (by simp)
      have h64 := Dg.pow_bound _ _ hk hm
      have hb' : Dg.bytes n = Dg.bytesF j (m / 256) ++ (UInt8.ofNat (m % 256) :: l) := by rw [hb, Dg.bytesF_step _ _ (by omega)]; simp
      have hm' : m / 256 < 256 ^ j := by rw [Nat.pow_succ] at hm; omega
      have HB := Lib.hid hb'
      have HM := Lib.hid hm'
      clear hb hm hb' hm'
      go_wp2
      go_roundw
      case rel => exact ⟨m / 256, j, _, rfl, rfl, by omega, HM.out, by simp; omega, HB.out, hbel.alloc hbel.size _⟩
      case measure => simp [intOf]; omega
    · obtain rfl : m = 0 := by omega
      have hb' : Dg.bytes n = l := by rw [hb, Dg.bytesF_zero]; rfl
      have hn' : tx (UInt8.ofNat l.length :: l) = tx (Dg.num n) := by rw [Dg.num, hb']
      have hc := conv_one wr (UInt8.ofNat l.length) 5 1 ((l.length : Int)) (by simp [UInt8.toNat_ofNat']; omega)
      have HN := Lib.hid hn'
      clear hb hb' hm hn'
      go_wp2
      go_ret
      exact ⟨congrArg Ending.returned HN.out, hbel.alloc hbel.size _⟩

set_option maxHeartbeats 1000000 in
theorem rtext_any (l : List UInt8) (hl : l.length ≤ 140737488351232) (w : World) :
    Calls Try.prog 73 #[tx l] w fun e w' => e = .returned (tx (Dg.num l.length ++ l)) ∧ Below w.heap.size w w' := by
  have hn := Dg.num_len l.length
  go_enter Try.func73, Try.ntmps73
  go_wp2_with (go_at_call 41; refine (rnum_any _ (by omega) _).mono ?_; rintro e w' ⟨rfl, hb⟩)
  go_ret
  exact ⟨rfl, hb⟩
end Go.Proofs.Ytbkpekpajeaacaa
end
section
/- The contract of the document's Row. -/
namespace Go.Proofs.Ytbkpekpajeaacaa
open Go.RowKit

theorem rnum_eq {n : Nat} {l : List UInt8} (h : Dg.num n = l) (hn : n < 18446744073709551616) (w : World) :
    Calls Try.prog 41 #[.int .u64 n] w fun e w' => e = .returned (tx l) ∧ Below w.heap.size w w' := by
  subst h
  exact rnum_any n hn w
theorem rtext_eq {t l : List UInt8} (h : Dg.text t = l) (hl : t.length ≤ 140737488351232) (w : World) :
    Calls Try.prog 73 #[tx t] w fun e w' => e = .returned (tx l) ∧ Below w.heap.size w w' := by
  subst h
  exact rtext_any t hl w

set_option maxHeartbeats 2000000 in
theorem rrow_any (v : Value) (ls : List (List UInt8)) (w : World) (hv : TxAt w v ls) (hl : ls.length ≤ 4294967296) (ht : (Dg.texts ls).length ≤ 4294967296) :
    Calls Try.prog 69 #[v] w fun e w' => e = .returned (tx (Dg.row ls)) ∧ Below w.heap.size w w' := by
  obtain ⟨i0, hi, hz0, hz1, hz2⟩ := info_parts info_byte
  obtain ⟨aa, ca, rfl⟩ := hv.len
  obtain ⟨nb, hnb⟩ : ∃ nb, Dg.num ls.length = nb := ⟨_, rfl⟩
  have hnl : nb.length ≤ 9 := by rw [← hnb]; exact Dg.num_len _
  have HV := Lib.hid hv
  have HN := Lib.hid hnb
  clear hv hnb
  go_enter Try.func69, Try.ntmps69
  go_wp2_with fail
  refine (rnum_eq HN.out (by omega) _).mono ?_
  rintro e w1 ⟨rfl, hb1⟩
  obtain ⟨b0, w2, hrun, hm, hb2⟩ := MarkRow.made (P := Try.prog) w1 9 79 5 nb (by unfold maxLen; omega) Try.underlying9 Try.underlying79 Try.underlying5
  have HM := Lib.hid hm
  clear hm
  go_wp2_with fail
  clear hrun
  have hbw : Below w.heap.size w w2 := grow_trans hb1 hb2
  have hw1 := hb1.size
  go_loopw [3, 4] (fun b i wr => ∃ k : Nat, i = .int .i64 k ∧ k ≤ ls.length ∧ MarkRow wr w1.heap.size 5 b (nb ++ Dg.texts (ls.take k)) ∧ Below w.heap.size w wr ∧ w1.heap.size ≤ wr.heap.size) (fun _ i _ => ls.length - (intOf i).toNat)
  case atStart => exact ⟨0, rfl, by omega, by simpa [Dg.texts] using HM.out, hbw, hb2.size⟩
  case round =>
    obtain ⟨k, rfl, hk, hmr, hbr, hsr⟩ := hrel
    by_cases hlt : k < ls.length
    · rcases HV.out with ⟨_, _, _, h0⟩ | ⟨bb, ob, cb, hvb, hcb⟩
      · rw [h0] at hlt; simp at hlt
      cases hvb
      have hc := below_cell hbr (hcb k hlt)
      have htl := Dg.text_len ls k hlt
      have htk := Dg.texts_take_len ls k
      have htk1 := Dg.texts_take_len ls (k + 1)
      have hts := Dg.texts_take ls k hlt
      obtain ⟨tb, htb⟩ : ∃ tb, Dg.text ls[k] = tb := ⟨_, rfl⟩
      rw [htb] at hts
      rw [hts] at htk1
      simp only [List.length_append] at htk1
      have HR := Lib.hid hmr
      have HT := Lib.hid hts
      have HB := Lib.hid htb
      clear hmr hts htb
      go_wp2_with fail
      refine (rtext_eq HB.out (by omega) _).mono ?_
      rintro e w3 ⟨rfl, hb3⟩
      have hs3 := hb3.size
      have hm3 := HR.out.below hb3
      have HM3 := Lib.hid hm3
      clear hm3
      go_wp2_with (at_builtin; refine wpList_append_mark rfl _ _ 79 9 rfl w1.heap.size 5 i0 Try.underlying79 Try.underlying9 hi hz0 hz1 hz2 _ _ tb rfl HM3.out rfl ?c1 ?c2 ?_)
      case c1 => simp only [List.length_append]; omega
      case c2 => omega
      intro v' w4 hm4 hg4
      have hm5 : MarkRow w4 w1.heap.size 5 v' (nb ++ Dg.texts (ls.take (k + 1))) := by rw [HT.out]; exact hm4
      have hb4 : Below w.heap.size w w4 := (grow_trans hbr hb3).grown hg4 (by omega) (fun k hk => by have := (HM3.out.lt k hk).1; omega)
      have hs4 : w1.heap.size ≤ w4.heap.size := by have := hg4.size; omega
      have HM5 := Lib.hid hm5
      clear hm4 hm5 hg4 HM3
      go_wp2
      go_roundw
      case rel => exact ⟨k + 1, by go_num, hlt, HM5.out, hb4, hs4⟩
      case measure => simp [intOf]; omega
    · obtain rfl : k = ls.length := by omega
      rw [List.take_length] at hmr
      have hf : Dg.row ls = nb ++ Dg.texts ls := by rw [Dg.row, HN.out]
      rw [← hf] at hmr
      obtain ⟨all, hall⟩ : ∃ all, Dg.row ls = all := ⟨_, rfl⟩
      rw [hall] at hmr
      have HF := Lib.hid hall
      clear hf hall
      obtain ⟨g, cap, rfl, hcell⟩ := hmr.cell
      have hconv := run_convert_bytes_arg (P := Try.prog) wr 79 5 Try.underlying79 Try.underlying5 g 0 _ cap _ (by simp) hcell 9 Try.underlying9
      rw [strOfNums_bytes] at hconv
      clear hmr hcell
      go_wp2
      go_ret
      exact ⟨by rw [HF.out]; rfl, hbr⟩
end Go.Proofs.Ytbkpekpajeaacaa
end
