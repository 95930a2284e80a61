/- Mark, DigRText, DigRRow, MarkOne, ShaRPad, ShaRWords, ShaRBlock, ShaRSum, BatRBytesO, VtxRBytesC, in one. -/
import Derived.Test.YtflmfbcjmjlkbaaGreatDoorRows
import Derived.Test.YtflmfbcjmjlkbaaGreatDoorGDig
import Derived.WalkKit
import Derived.WalkSpells
import Derived.WalkLawsBesides
import Derived.Laws.BytesArg
import Derived.Lib.Hide
import Derived.Lib.AppendStr
import Derived.Laws.IdiomStrings
import Derived.Laws.CopyRow
import Derived.Laws.Append
import Derived.Test.YtflmfbcjmjlkbaaGreatDoorGSha
import Derived.Laws.AppendOwnNone
import Derived.Deep.AppendLies
import Derived.Deep.RegionLaw
import Derived.Deep.RegionHeldLaw
import Derived.Test.YtflmfbcjmjlkbaaGreatDoorGBat
import Derived.Test.YtflmfbcjmjlkbaaGreatDoorVtxBC
section
/- A []byte that the call itself made of a text (the model marks one place behind its cells), and what is appended to it. -/
namespace Go.Proofs.YtflmfbcjmjlkbaaGreatDoor
open Go.RowKit

/-- The slice v, in a block of the call's own (from base on), holds the bytes l; no cell of the block is frozen. -/
def MarkRow (w : World) (base : Nat) (e : TypeId) (v : Value) (l : List UInt8) : Prop :=
  ∃ g cap cur fz, v = .slice (some ⟨g, 0, none⟩) l.length cap ∧ base ≤ g ∧ w.heap[g]? = some (.cells cur e fz) ∧ (fz.2 ≤ fz.1 ∨ cap ≤ fz.1) ∧ l.length ≤ cap ∧ cap ≤ maxLen ∧ cur.size = cap ∧ cur.toList.take l.length = l.map bv

theorem MarkRow.lt {w : World} {base : Nat} {e : TypeId} {v : Value} {l : List UInt8} (h : MarkRow w base e v l) : ∀ k, v.ownBlock = some k → base ≤ k ∧ k < w.heap.size := by
  obtain ⟨g, cap, cur, fz, rfl, hb, hg, _⟩ := h
  intro k hk
  simp only [Value.ownBlock, Option.some.injEq] at hk
  subst hk
  exact ⟨hb, (Array.getElem?_eq_some_iff.1 hg).1⟩

theorem MarkRow.below {w w' : World} {base : Nat} {e : TypeId} {v : Value} {l : List UInt8} (h : MarkRow w base e v l) (hb : Below w.heap.size w w') : MarkRow w' base e v l := by
  obtain ⟨g, cap, cur, fz, rfl, hg0, hg, r⟩ := h
  exact ⟨g, cap, cur, fz, rfl, hg0, by rw [hb.block g (Array.getElem?_eq_some_iff.1 hg).1]; exact hg, r⟩

theorem MarkRow.cell {w : World} {base : Nat} {e : TypeId} {v : Value} {l : List UInt8} (h : MarkRow w base e v l) :
    ∃ g cap, v = .slice (some ⟨g, 0, none⟩) l.length cap ∧ ∀ i, i < l.length → w.cell? ⟨g, 0 + i, none⟩ = some (.int .u8 ((l.map fun y => (y.toNat : Int)).getD i 0)) := by
  obtain ⟨g, cap, cur, fz, rfl, _, hg, _, hl, _, hs, ht⟩ := h
  refine ⟨g, cap, rfl, fun i hi => ?_⟩
  have e1 : (cur.toList.take l.length)[i]? = some (bv l[i]) := by rw [ht]; simp [hi]
  rw [List.getElem?_take_of_lt hi] at e1
  simp only [World.cell?, hg, Nat.zero_add]
  rw [show ((l.map fun y => (y.toNat : Int)).getD i 0) = (l[i].toNat : Int) by simp [List.getD, hi]]
  simpa [bv] using e1

theorem strCells_tx (l : List UInt8) : Lib.strCells ⟨l.toArray⟩ = l.map bv := rfl

/-- '[]byte(s)'. -/
theorem MarkRow.made {P : Program} (w : World) (src dst e : TypeId) (l : List UInt8) (hl : l.length ≤ maxLen) (hs : P.underlying src = some .string) (hd : P.underlying dst = some (.slice e)) (he : P.underlying e = some (.int .u8)) :
    ∃ v w', (convert src dst (tx l)).run P w = .ok v w' ∧ MarkRow w' w.heap.size e v l ∧ Below w.heap.size w w' := by
  have hz : (ByteArray.mk l.toArray).size = l.length := rfl
  have hge := grownCap_ge w l.length 0 e
  have hcm := grownCap_le_maxLen w l.length 0 e hl
  have hsz : (bytesRow (ByteArray.mk l.toArray) (grownCap w l.length 0 e)).size = grownCap w l.length 0 e := by
    simp only [bytesRow, Array.size_append, Array.size_map, Array.size_replicate, List.size_toArray, hz]
    omega
  refine ⟨_, _, run_bytes_of_string w src dst e _ hs hd he, ⟨w.heap.size, grownCap w l.length 0 e, bytesRow (ByteArray.mk l.toArray) (grownCap w l.length 0 e), _, rfl, Nat.le_refl _, heap_alloc_new w.drew _, .inr ?_, hge, hcm, hsz, ?_⟩, ?_⟩
  · show _ ≤ (bytesRow (ByteArray.mk l.toArray) (grownCap w l.length 0 e)).size
    omega
  · simp [bytesRow, bv]
  · exact ((Below.refl _ _).drew).alloc (Nat.le_refl _) _

/-- Storing cells into such a block. -/
theorem store_cells_mark (P : Program) (g o : Nat) (t : TypeId) (fz : Nat × Nat) : ∀ (vs : List Value) (i : Nat) (cur : Array Value) (w : World), w.heap[g]? = some (.cells cur t fz) → (fz.2 ≤ fz.1 ∨ cur.size ≤ fz.1) → o + i + vs.length ≤ cur.size →
    (∀ v ∈ vs, v.oneCell' = true) → (storeCells ⟨g, o, none⟩ vs i).run P w = .ok () (w.setRow g (cur.toList.take (o + i) ++ vs ++ cur.toList.drop (o + i + vs.length)).toArray) := by
  intro vs
  induction vs with
  | nil =>
    intro i cur w hg _ _ _
    have e : (cur.toList.take (o + i) ++ [] ++ cur.toList.drop (o + i + ([] : List Value).length)).toArray = cur := by simp
    rw [e, setRow_self w g cur t fz hg]
    rfl
  | cons v rest ih =>
    intro i cur w hg hf hl h1
    simp only [List.length_cons] at hl
    have hi : o + i < cur.size := by omega
    have ha : (⟨g, o, none⟩ : Addr).add i = ⟨g, o + i, none⟩ := by unfold Addr.add; split <;> simp_all
    have hc : w.cell? ⟨g, o + i, none⟩ = some cur[o + i] := by simp [World.cell?, hg, hi]
    have hz : w.frozen? ⟨g, o + i, none⟩ = false := by
      obtain ⟨lo, up⟩ := fz
      simp only [World.frozen?, hg, Bool.and_eq_false_iff, decide_eq_false_iff_not]
      simp only at hf
      omega
    have hs : (store ((⟨g, o, none⟩ : Addr).add i) v).run P w = .ok () (w.setRow g (cur.setIfInBounds (o + i) v)) := by
      rw [ha, run_store P w _ v _ (h1 v (by simp)), hc]
      simp [hz, setCell_eq_setRow w g (o + i) cur t fz v hg]
    have hr := ih (i + 1) (cur.setIfInBounds (o + i) v) (w.setRow g (cur.setIfInBounds (o + i) v)) (setRow_heap w g cur _ t _ hg) (by simpa using hf) (by simp; omega) (fun x hx => h1 x (by simp [hx]))
    simp only [storeCells, Sem.run_bind, hs, Result.andThen_ok, hr, setRow_setRow]
    congr 3
    have e := list_seg_step cur.toList (o + i) v rest (by simp; omega)
    simpa [Array.toList_setIfInBounds, Nat.add_assoc] using e

/-- 'append(b, s...)'. -/
theorem MarkRow.appended {P : Program} {w : World} {base : Nat} {e : TypeId} {v : Value} {l : List UInt8} (h : MarkRow w base e v l) (t u ty : TypeId) (i : TypeInfo) (ht : P.underlying t = some (.slice e)) (hu : P.underlying u = some .string)
    (hi : P.info? e = some i) (hz : i.zero = some (.int .u8 0)) (h1 : i.size = 1) (hy : i.bytes = 1) (s : List UInt8) (hs : l.length + s.length ≤ 140737488355328) (hbase : base ≤ w.heap.size) :
    ∃ v' w', (Builtin.append_ #[t, u] ty #[v, tx s]).run P w = .ok v' w' ∧ MarkRow w' base e v' (l ++ s) ∧ w.grownBy w' v.ownBlock := by
  obtain ⟨g, cap, cur, fz, rfl, hb, hg, hf, hl, hm, hsz, htk⟩ := h
  have hss : (ByteArray.mk s.toArray).size = s.length := rfl
  have hml : l.length + s.length ≤ maxLen := by unfold maxLen; omega
  by_cases hroom : l.length + s.length ≤ cap
  · have hfst := Lib.run_firstCells_string (P := P) w 1 ⟨s.toArray⟩
    have hst := store_cells_mark P g l.length e fz (Lib.strCells ⟨s.toArray⟩) 0 cur w hg (by rw [hsz]; exact hf) (by rw [Lib.strCells_length, hss]; omega) (Lib.strCells_oneCell _)
    rw [Lib.strCells_length, hss] at hst
    simp only [Nat.add_zero] at hst
    refine ⟨.slice (some ⟨g, 0, none⟩) (l ++ s).length cap, w.setRow g (cur.toList.take l.length ++ Lib.strCells ⟨s.toArray⟩ ++ cur.toList.drop (l.length + s.length)).toArray, ?_, ⟨g, cap, _, fz, rfl, hb, setRow_heap w g cur _ e _ hg, hf, by simpa using hroom, hm, ?_, ?_⟩, ⟨rfl, rfl, rfl, by simp, fun k _ hk => setRow_other w g k _ (fun e => hk (by simp [Value.ownBlock, e]))⟩⟩
    · rw [hss] at hfst
      simp [Builtin.append_, run_underlying ht, run_underlying hu, sizeOf, typeInfo, hi, h1, Builtin.lenOf, hss, hroom, hfst, Addr.add_lit, hst]
    · simp [Lib.strCells_length, hss]; omega
    · rw [htk, strCells_tx]
      simp only [List.map_append]
      exact List.take_left' (by simp)
  · have hcell : ∀ j x, (l.map bv)[j]? = some x → w.cell? ((⟨g, 0, none⟩ : Addr).add j) = some x := by
      intro j x hj
      have ha : (⟨g, 0, none⟩ : Addr).add j = ⟨g, j, none⟩ := by unfold Addr.add; split <;> simp_all
      rw [ha]
      rw [← htk] at hj
      simp only [World.cell?, hg]
      rw [List.getElem?_take] at hj
      split at hj
      · simpa using hj
      · cases hj
    have hr := Lib.run_append_grow_string (P := P) w t u ty e i (.int .u8 0) ht hu hi hz ⟨g, 0, none⟩ l.length cap (l.map bv) (by rw [h1]; simp) hcell ⟨s.toArray⟩ (by rw [hss]; omega) (by rw [hss]; omega)
      (by rw [hy, hss]; exact growslice_fits (by omega) (by omega))
    rw [hss] at hr
    have hge := grownCap_ge w (l.length + s.length) cap e
    have hcm := grownCap_le_maxLen w (l.length + s.length) cap e hml
    refine ⟨_, _, hr, ⟨w.heap.size, grownCap w (l.length + s.length) cap e, _, (0, 0), by simp, hbase, heap_alloc_new w.drew _, .inl (Nat.le_refl _), by simpa using hge, hcm, ?_, ?_⟩, ⟨rfl, rfl, rfl, by simp, fun k hk _ => heap_alloc_old w.drew _ hk⟩⟩
    · have hz1 : (Value.int IntKind.u8 0).cells.size = 1 := rfl
      simp only [Array.size_append, List.size_toArray, size_zeroCells, hz1, List.length_map, Lib.strCells_length, hss]
      omega
    · rw [strCells_tx]
      simp only [Array.toList_append, List.map_append]
      exact List.take_left' (by simp)
/-- 'append(b, s...)', for the walk. -/
theorem wpList_append_mark {P : Program} {w : World} {ops : Array Oper} {rest : List Oper} {o : Oper} {a : Act} {Q : Exit → Act → World → Prop} (hgd : o.guard = none) (sl x : Operand) (t u : TypeId)
    (ho : o.op = .call { callee := .builtin .append, args := #[sl, x], argTypes := #[t, u] }) (base : Nat) (e : TypeId) (i : TypeInfo) (ht : P.underlying t = some (.slice e)) (hu : P.underlying u = some .string)
    (hi : P.info? e = some i) (hz : i.zero = some (.int .u8 0)) (h1 : i.size = 1) (hy : i.bytes = 1) (v : Value) (l s : List UInt8) (hv : a.eval sl = v) (h : MarkRow w base e v l) (hx : a.eval x = tx s)
    (hs : l.length + s.length ≤ 140737488355328) (hbase : base ≤ w.heap.size)
    (k : ∀ v' w', MarkRow w' base e v' (l ++ s) → w.grownBy w' v.ownBlock → wpList P ops Q rest (a.put o.dst v') w') : wpList P ops Q (o :: rest) a w := by
  obtain ⟨v', w', hr, h2, h3⟩ := h.appended t u o.type i ht hu hi hz h1 hy s hs hbase
  refine wpList_plain hgd fun K hK => ?_
  unfold Oper.wp execOp
  simp only [ho, resolve, invoke, builtin, Sem.run_bind, Sem.run_pure, Result.andThen_ok, List.map_toArray, List.map_cons, List.map_nil, hv, hx, hr]
  exact hK _ _ (k v' w' h2 h3)
end Go.Proofs.YtflmfbcjmjlkbaaGreatDoor
end
section
/- The contracts of the document's Num and Text. -/
namespace Go.Proofs.YtflmfbcjmjlkbaaGreatDoor
open Go.RowKit
attribute [local go_sem] ByteArray.mk_append_mk

set_option maxHeartbeats 1000000 in
theorem rnum_any (n : Nat) (hn : n < 18446744073709551616) (w : World) :
    Calls Tryz.prog 21 #[.int .u64 n] w fun e w' => e = .returned (tx (Dg.num n)) ∧ Below w.heap.size w w' := by
  go_enter Tryz.func21, Tryz.ntmps21
  go_wp2_with fail
  go_loopw [0, 3] (fun v s wr => ∃ (m k : Nat) (l : List UInt8), v = .int .u64 m ∧ s = tx l ∧ k ≤ 8 ∧ m < 256 ^ k ∧ l.length ≤ 8 - k ∧ Dg.bytes n = Dg.bytesF k m ++ l ∧ Below w.heap.size w wr) (fun v _ _ => (intOf v).toNat)
  case atStart => exact ⟨n, 8, [], rfl, rfl, by omega, by omega, by simp, by simp [Dg.bytes], Below.refl _ _⟩
  case round =>
    obtain ⟨m, k, l, rfl, rfl, hk, hm, hl, hb, hbel⟩ := hrel
    by_cases h0 : 0 < m
    · obtain ⟨j, rfl⟩ : ∃ j, k = j + 1 := by
        rcases Nat.eq_zero_or_pos k with h | h
        · subst h; simp at hm; omega
        · exact ⟨k - 1, by omega⟩
      have hc := conv_one wr (UInt8.ofNat (m % 256)) 5 1 ((m : Int) % 256) (by simp)
      have h64 := Dg.pow_bound _ _ hk hm
      have hb' : Dg.bytes n = Dg.bytesF j (m / 256) ++ (UInt8.ofNat (m % 256) :: l) := by rw [hb, Dg.bytesF_step _ _ (by omega)]; simp
      have hm' : m / 256 < 256 ^ j := by rw [Nat.pow_succ] at hm; omega
      have HB := Lib.hid hb'
      have HM := Lib.hid hm'
      clear hb hm hb' hm'
      go_wp2
      go_roundw
      case rel => exact ⟨m / 256, j, _, rfl, rfl, by omega, HM.out, by simp; omega, HB.out, hbel.alloc hbel.size _⟩
      case measure => simp [intOf]; omega
    · obtain rfl : m = 0 := by omega
      have hb' : Dg.bytes n = l := by rw [hb, Dg.bytesF_zero]; rfl
      have hn' : tx (UInt8.ofNat l.length :: l) = tx (Dg.num n) := by rw [Dg.num, hb']
      have hc := conv_one wr (UInt8.ofNat l.length) 5 1 ((l.length : Int)) (by simp [UInt8.toNat_ofNat']; omega)
      have HN := Lib.hid hn'
      clear hb hb' hm hn'
      go_wp2
      go_ret
      exact ⟨congrArg Ending.returned HN.out, hbel.alloc hbel.size _⟩

set_option maxHeartbeats 1000000 in
theorem rtext_any (l : List UInt8) (hl : l.length ≤ 140737488351232) (w : World) :
    Calls Tryz.prog 20 #[tx l] w fun e w' => e = .returned (tx (Dg.num l.length ++ l)) ∧ Below w.heap.size w w' := by
  have hn := Dg.num_len l.length
  go_enter Tryz.func20, Tryz.ntmps20
  go_wp2_with (go_at_call 21; refine (rnum_any _ (by omega) _).mono ?_; rintro e w' ⟨rfl, hb⟩)
  go_ret
  exact ⟨rfl, hb⟩
end Go.Proofs.YtflmfbcjmjlkbaaGreatDoor
end
section
/- The contract of the document's Row. -/
namespace Go.Proofs.YtflmfbcjmjlkbaaGreatDoor
open Go.RowKit

theorem rnum_eq {n : Nat} {l : List UInt8} (h : Dg.num n = l) (hn : n < 18446744073709551616) (w : World) :
    Calls Tryz.prog 21 #[.int .u64 n] w fun e w' => e = .returned (tx l) ∧ Below w.heap.size w w' := by
  subst h
  exact rnum_any n hn w
theorem rtext_eq {t l : List UInt8} (h : Dg.text t = l) (hl : t.length ≤ 140737488351232) (w : World) :
    Calls Tryz.prog 20 #[tx t] w fun e w' => e = .returned (tx l) ∧ Below w.heap.size w w' := by
  subst h
  exact rtext_any t hl w

set_option maxHeartbeats 2000000 in
theorem rrow_any (v : Value) (ls : List (List UInt8)) (w : World) (hv : TxAt w v ls) (hl : ls.length ≤ 4294967296) (ht : (Dg.texts ls).length ≤ 4294967296) :
    Calls Tryz.prog 47 #[v] w fun e w' => e = .returned (tx (Dg.row ls)) ∧ Below w.heap.size w w' := by
  obtain ⟨i0, hi, hz0, hz1, hz2⟩ := info_parts info_byte
  obtain ⟨aa, ca, rfl⟩ := hv.len
  obtain ⟨nb, hnb⟩ : ∃ nb, Dg.num ls.length = nb := ⟨_, rfl⟩
  have hnl : nb.length ≤ 9 := by rw [← hnb]; exact Dg.num_len _
  have HV := Lib.hid hv
  have HN := Lib.hid hnb
  clear hv hnb
  go_enter Tryz.func47, Tryz.ntmps47
  go_wp2_with fail
  refine (rnum_eq HN.out (by omega) _).mono ?_
  rintro e w1 ⟨rfl, hb1⟩
  obtain ⟨b0, w2, hrun, hm, hb2⟩ := MarkRow.made (P := Tryz.prog) w1 9 83 5 nb (by unfold maxLen; omega) Tryz.underlying9 Tryz.underlying83 Tryz.underlying5
  have HM := Lib.hid hm
  clear hm
  go_wp2_with fail
  clear hrun
  have hbw : Below w.heap.size w w2 := grow_trans hb1 hb2
  have hw1 := hb1.size
  go_loopw [3, 4] (fun b i wr => ∃ k : Nat, i = .int .i64 k ∧ k ≤ ls.length ∧ MarkRow wr w1.heap.size 5 b (nb ++ Dg.texts (ls.take k)) ∧ Below w.heap.size w wr ∧ w1.heap.size ≤ wr.heap.size) (fun _ i _ => ls.length - (intOf i).toNat)
  case atStart => exact ⟨0, rfl, by omega, by simpa [Dg.texts] using HM.out, hbw, hb2.size⟩
  case round =>
    obtain ⟨k, rfl, hk, hmr, hbr, hsr⟩ := hrel
    by_cases hlt : k < ls.length
    · rcases HV.out with ⟨_, _, _, h0⟩ | ⟨bb, ob, cb, hvb, hcb⟩
      · rw [h0] at hlt; simp at hlt
      cases hvb
      have hc := below_cell hbr (hcb k hlt)
      have htl := Dg.text_len ls k hlt
      have htk := Dg.texts_take_len ls k
      have htk1 := Dg.texts_take_len ls (k + 1)
      have hts := Dg.texts_take ls k hlt
      obtain ⟨tb, htb⟩ : ∃ tb, Dg.text ls[k] = tb := ⟨_, rfl⟩
      rw [htb] at hts
      rw [hts] at htk1
      simp only [List.length_append] at htk1
      have HR := Lib.hid hmr
      have HT := Lib.hid hts
      have HB := Lib.hid htb
      clear hmr hts htb
      go_wp2_with fail
      refine (rtext_eq HB.out (by omega) _).mono ?_
      rintro e w3 ⟨rfl, hb3⟩
      have hs3 := hb3.size
      have hm3 := HR.out.below hb3
      have HM3 := Lib.hid hm3
      clear hm3
      go_wp2_with (at_builtin; refine wpList_append_mark rfl _ _ 83 9 rfl w1.heap.size 5 i0 Tryz.underlying83 Tryz.underlying9 hi hz0 hz1 hz2 _ _ tb rfl HM3.out rfl ?c1 ?c2 ?_)
      case c1 => simp only [List.length_append]; omega
      case c2 => omega
      intro v' w4 hm4 hg4
      have hm5 : MarkRow w4 w1.heap.size 5 v' (nb ++ Dg.texts (ls.take (k + 1))) := by rw [HT.out]; exact hm4
      have hb4 : Below w.heap.size w w4 := (grow_trans hbr hb3).grown hg4 (by omega) (fun k hk => by have := (HM3.out.lt k hk).1; omega)
      have hs4 : w1.heap.size ≤ w4.heap.size := by have := hg4.size; omega
      have HM5 := Lib.hid hm5
      clear hm4 hm5 hg4 HM3
      go_wp2
      go_roundw
      case rel => exact ⟨k + 1, by go_num, hlt, HM5.out, hb4, hs4⟩
      case measure => simp [intOf]; omega
    · obtain rfl : k = ls.length := by omega
      rw [List.take_length] at hmr
      have hf : Dg.row ls = nb ++ Dg.texts ls := by rw [Dg.row, HN.out]
      rw [← hf] at hmr
      obtain ⟨all, hall⟩ : ∃ all, Dg.row ls = all := ⟨_, rfl⟩
      rw [hall] at hmr
      have HF := Lib.hid hall
      clear hf hall
      obtain ⟨g, cap, rfl, hcell⟩ := hmr.cell
      have hconv := run_convert_bytes_arg (P := Tryz.prog) wr 83 5 Tryz.underlying83 Tryz.underlying5 g 0 _ cap _ (by simp) hcell 9 Tryz.underlying9
      rw [strOfNums_bytes] at hconv
      clear hmr hcell
      go_wp2
      go_ret
      exact ⟨by rw [HF.out]; rfl, hbr⟩
end Go.Proofs.YtflmfbcjmjlkbaaGreatDoor
end
section
/- What is appended to a []byte that was made of a text: bytes of a row. -/
namespace Go.Proofs.YtflmfbcjmjlkbaaGreatDoor
open Go.RowKit

theorem MarkRow.appendedS {P : Program} {w : World} {base : Nat} {e : TypeId} {v : Value} {l : List UInt8} (h : MarkRow w base e v l) (t ty : TypeId) (i : TypeInfo) (ht : P.underlying t = some (.slice e))
    (hi : P.info? e = some i) (hz : i.zero = some (.int .u8 0)) (h1 : i.size = 1) (hy : i.bytes = 1) (s : List UInt8) (a : Addr) (m c : Nat) (hm : s.length = m) (hnews : ∀ j u, (s.map bv)[j]? = some u → w.cell? (a.add j) = some u)
    (hs : l.length + s.length ≤ 140737488355328) (hbase : base ≤ w.heap.size) :
    ∃ v' w', (Builtin.append_ #[t, t] ty #[v, .slice (some a) m c]).run P w = .ok v' w' ∧ MarkRow w' base e v' (l ++ s) ∧ w.grownBy w' v.ownBlock := by
  subst hm
  obtain ⟨g, cap, cur, fz, rfl, hb, hg, hf, hl, hm, hsz, htk⟩ := h
  have hml : l.length + s.length ≤ maxLen := by unfold maxLen; omega
  have hone : ∀ u ∈ s.map bv, u.oneCell' = true := by
    intro u hu
    obtain ⟨y, _, rfl⟩ := List.mem_map.1 hu
    rfl
  by_cases hroom : l.length + s.length ≤ cap
  · have hfst := run_firstCells_some (P := P) w 1 s.length a s.length c (s.map bv) (by simp) hnews
    have hst := store_cells_mark P g l.length e fz (s.map bv) 0 cur w hg (by rw [hsz]; exact hf) (by rw [List.length_map]; omega) hone
    rw [List.length_map] at hst
    simp only [Nat.add_zero] at hst
    refine ⟨.slice (some ⟨g, 0, none⟩) (l ++ s).length cap, w.setRow g (cur.toList.take l.length ++ s.map bv ++ cur.toList.drop (l.length + s.length)).toArray, ?_, ⟨g, cap, _, fz, rfl, hb, setRow_heap w g cur _ e _ hg, hf, by simpa using hroom, hm, ?_, ?_⟩, ?_⟩
    · simp [Builtin.append_, run_underlying ht, sizeOf, typeInfo, hi, h1, Builtin.lenOf, hroom, hfst, Addr.add_lit, hst]
    · simp; omega
    · rw [htk]
      simp only [List.map_append]
      exact List.take_left' (by simp)
    · exact ⟨rfl, rfl, rfl, by simp, fun k _ hk => setRow_other w g k _ (fun e => hk (by rw [e]; rfl))⟩
  · have hcell : ∀ j x, (l.map bv)[j]? = some x → w.cell? ((⟨g, 0, none⟩ : Addr).add j) = some x := by
      intro j x hj
      have ha : (⟨g, 0, none⟩ : Addr).add j = ⟨g, j, none⟩ := by unfold Addr.add; split <;> simp_all
      rw [ha]
      rw [← htk] at hj
      simp only [World.cell?, hg]
      rw [List.getElem?_take] at hj
      split at hj
      · simpa using hj
      · cases hj
    have hr := run_append_grow (P := P) w t ty e i (.int .u8 0) ht hi hz ⟨g, 0, none⟩ l.length cap (l.map bv) (by rw [h1]; simp) hcell a s.length c (s.map bv) (by rw [h1]; simp) hnews (by omega) (by omega)
      (by rw [hy]; exact growslice_fits (by omega) (by omega))
    have hge := grownCap_ge w (l.length + s.length) cap e
    have hcm := grownCap_le_maxLen w (l.length + s.length) cap e hml
    refine ⟨_, _, hr, ⟨w.heap.size, grownCap w (l.length + s.length) cap e, _, (0, 0), by simp, hbase, heap_alloc_new w.drew _, .inl (Nat.le_refl _), by simpa using hge, hcm, ?_, ?_⟩, ⟨rfl, rfl, rfl, by simp, fun k hk _ => heap_alloc_old w.drew _ hk⟩⟩
    · have hz1 : (Value.int IntKind.u8 0).cells.size = 1 := rfl
      simp only [Array.size_append, List.size_toArray, size_zeroCells, hz1, List.length_map]
      omega
    · simp only [Array.toList_append, List.map_append]
      exact List.take_left' (by simp)
/-- 'append(b, l...)', for the walk. -/
theorem wpList_append_markS {P : Program} {w : World} {ops : Array Oper} {rest : List Oper} {o : Oper} {a : Act} {Q : Exit → Act → World → Prop} (hgd : o.guard = none) (sl x : Operand) (t : TypeId)
    (ho : o.op = .call { callee := .builtin .append, args := #[sl, x], argTypes := #[t, t] }) (base : Nat) (e : TypeId) (i : TypeInfo) (ht : P.underlying t = some (.slice e))
    (hi : P.info? e = some i) (hz : i.zero = some (.int .u8 0)) (h1 : i.size = 1) (hy : i.bytes = 1) (v : Value) (l s : List UInt8) (hv : a.eval sl = v) (h : MarkRow w base e v l) (ad : Addr) (m c : Nat) (hx : a.eval x = .slice (some ad) m c) (hm : s.length = m)
    (hnews : ∀ j u, (s.map bv)[j]? = some u → w.cell? (ad.add j) = some u) (hs : l.length + s.length ≤ 140737488355328) (hbase : base ≤ w.heap.size)
    (k : ∀ v' w', MarkRow w' base e v' (l ++ s) → w.grownBy w' v.ownBlock → wpList P ops Q rest (a.put o.dst v') w') : wpList P ops Q (o :: rest) a w := by
  obtain ⟨v', w', hr, h2, h3⟩ := h.appendedS t o.type i ht hi hz h1 hy s ad m c hm hnews hs hbase
  refine wpList_plain hgd fun K hK => ?_
  unfold Oper.wp execOp
  simp only [ho, resolve, invoke, builtin, Sem.run_bind, Sem.run_pure, Result.andThen_ok, List.map_toArray, List.map_cons, List.map_nil, hv, hx, hr]
  exact hK _ _ (k v' w' h2 h3)
end Go.Proofs.YtflmfbcjmjlkbaaGreatDoor
end
section
/- The document's Pad. -/
set_option maxRecDepth 100000
namespace Sh
theorem be8_drop (n : Nat) : ∀ j, j < 8 → (be8 n).drop (7 - j) = UInt8.ofNat (n / 256 ^ j % 256) :: (be8 n).drop (8 - j) := by
  intro j hj
  match j, hj with
  | 0, _ => simp [be8, List.range_succ]
  | 1, _ => simp [be8, List.range_succ]
  | 2, _ => simp [be8, List.range_succ]
  | 3, _ => simp [be8, List.range_succ]
  | 4, _ => simp [be8, List.range_succ]
  | 5, _ => simp [be8, List.range_succ]
  | 6, _ => simp [be8, List.range_succ]
  | 7, _ => simp [be8, List.range_succ]
  | j + 8, h => omega
def padB (s : List UInt8) (z : Nat) : List UInt8 := s ++ [128] ++ List.replicate z 0
theorem padB_len (s : List UInt8) (z : Nat) : (padB s z).length = s.length + 1 + z := by simp [padB]; omega
theorem padB_zero (s : List UInt8) : padB s 0 = s ++ [128] := by simp [padB]
theorem padB_succ (s : List UInt8) (z : Nat) : padB s (z + 1) = padB s z ++ [0] := by rw [padB, List.replicate_succ', ← List.append_assoc]; rfl
theorem pad_B (s : List UInt8) : pad s = padB s (zeros s.length) ++ be8 (8 * s.length) := by simp [pad, padB]
theorem ofN_b' (x : Nat) : (UInt8.ofNat (x % 256)).toNat = x % 256 := by rw [UInt8.toNat_ofNat']; omega
theorem be8_n (n : Nat) : (be8 n).length = 8 := by simp [be8]
end Sh
namespace Go.Proofs.YtflmfbcjmjlkbaaGreatDoor
open Go.RowKit
theorem info_byte1 : (Tryz.prog.info? 5).map (fun i => (i.zero, i.size, i.bytes)) = some (some (.int .u8 0), 1, 1) := by kernel_rfl
theorem one_new (w : World) (y : UInt8) (t : TypeId) : ∀ j u, ([y].map bv)[j]? = some u → (w.alloc (.cells #[bv y] t)).cell? ((⟨w.heap.size, 0, none⟩ : Addr).add j) = some u := new_cell _ _ rfl _ _
attribute [local go_sem] ByteArray.mk_append_mk

theorem cat_runS (x y : List UInt8) (h : ¬ (x.length + y.length > 9223372036854775807)) (W : World) : (Op.stringOp .add (⟨x.toArray⟩ : ByteArray) ⟨y.toArray⟩).run Tryz.prog W = .ok (tx (x ++ y)) W := by
  rw [run_string_add_sum (P := Tryz.prog) W _ _ (by simp [ByteArray.size]; omega), ByteArray.mk_append_mk]

set_option maxHeartbeats 2000000 in
theorem rpad (s : List UInt8) (hs : s.length ≤ 140737488351232) (w : World) :
    Calls Tryz.prog 58 #[tx s] w fun e w' => e = .returned (tx (Sh.pad s)) ∧ Below w.heap.size w w' := by
  obtain ⟨i0, hi, hz0, hz1, hz2⟩ := info_parts info_byte1
  obtain ⟨b0, w2, hrun, hm, hb2⟩ := MarkRow.made (P := Tryz.prog) w 9 83 5 s (by unfold maxLen; omega) Tryz.underlying9 Tryz.underlying83 Tryz.underlying5
  have HM := Lib.hid hm
  have HB2 := Lib.hid hb2
  have hsz2 := hb2.size
  have hm2 : MarkRow (w2.alloc (.cells #[.int .u8 128] 5)) w.heap.size 5 b0 s := hm.below ((Below.refl _ _).alloc (Nat.le_refl _) _)
  have HM2 := Lib.hid hm2
  clear hm hb2 hm2
  go_enter Tryz.func58, Tryz.ntmps58
  go_wp2_with (at_builtin; refine wpList_append_markS rfl _ _ 83 rfl w.heap.size 5 i0 Tryz.underlying83 hi hz0 hz1 hz2 _ _ [128] rfl HM2.out ⟨w2.heap.size, 0, none⟩ 1 1 rfl rfl ?c1 ?c2 ?c3 ?_)
  case c1 => exact one_new _ _ _
  case c2 => simp; omega
  case c3 => simp; omega
  intro v' w3 hm3 hg3
  have hlen : s.length + 1 ≤ 140737488351300 := by omega
  have hbw : Below w.heap.size w w3 := (HB2.out.alloc HB2.out.size _).grown hg3 (by have := HB2.out.size; simp; omega) (fun k hk => (HM2.out.lt k hk).1)
  have hsw : w.heap.size ≤ w3.heap.size := hbw.size
  have HM3 := Lib.hid hm3
  clear hm3 hg3 hrun HM HB2 HM2
  go_wp2_with fail
  go_loopw [3] (fun b wr => ∃ z : Nat, z ≤ Sh.zeros s.length ∧ MarkRow wr w.heap.size 5 b (Sh.padB s z) ∧ Below w.heap.size w wr) (fun b _ => Sh.zeros s.length + s.length + 1 - (match b with | .slice _ n _ => n | _ => 0))
  case atStart => exact ⟨0, by omega, by rw [Sh.padB_zero]; exact HM3.out, hbw⟩
  case round =>
    obtain ⟨z, hz, hmr, hbr⟩ := hrel
    have hzl : Sh.zeros s.length < 64 := by rw [Sh.zeros]; omega
    have hll : (Sh.padB s z).length = s.length + 1 + z := Sh.padB_len s z
    have hbs := hbr.size
    by_cases hlt : z < Sh.zeros s.length
    · have t1 : ((s.length + 1 + z : Nat) : Int) % 64 ≠ 56 := by rw [Sh.zeros] at hlt; omega
      have t2 : (((s.length + 1 + z : Nat) : Int) % 64 != 56) = true := by rw [bne_iff_ne]; exact t1
      have hm4 : MarkRow (wr.alloc (.cells #[.int .u8 0] 5)) w.heap.size 5 u3 (Sh.padB s z) := hmr.below ((Below.refl _ _).alloc (Nat.le_refl _) _)
      obtain ⟨g, cap, rfl, hcell⟩ := hmr.cell
      have HM4 := Lib.hid hm4
      have HBR := Lib.hid hbr
      have HLL := Lib.hid hll
      clear hmr hm4 hbr hcell t1
      simp only [hll]
      clear hll
      go_wp2_with (at_builtin; refine wpList_append_markS rfl _ _ 83 rfl w.heap.size 5 i0 Tryz.underlying83 hi hz0 hz1 hz2 _ _ [0] (by rw [HLL.out]; rfl) HM4.out ⟨wr.heap.size, 0, none⟩ 1 1 rfl rfl ?c1 ?c2 ?c3 ?_)
      case c1 => exact one_new _ _ _
      case c2 => rw [HLL.out]; simp; omega
      case c3 => simp; omega
      intro v4 w4 hm5 hg4
      have hb4 : Below w.heap.size w w4 := (HBR.out.alloc HBR.out.size _).grown hg4 (by have := HBR.out.size; simp; omega) (fun k hk => (HM4.out.lt k hk).1)
      have hm6 : MarkRow w4 w.heap.size 5 v4 (Sh.padB s (z + 1)) := by rw [Sh.padB_succ]; exact hm5
      obtain ⟨g5, cap5, rfl, _⟩ := hm6.cell
      have HM6 := Lib.hid hm6
      have HB4 := Lib.hid hb4
      clear hm5 hm6 hb4 hg4
      go_wp2
      go_roundw
      case rel => exact ⟨z + 1, hlt, HM6.out, HB4.out⟩
      case measure => simp [Sh.padB_len]; omega
    · obtain rfl : z = Sh.zeros s.length := by omega
      have t1 : ((s.length + 1 + Sh.zeros s.length : Nat) : Int) % 64 = 56 := by rw [Sh.zeros]; omega
      have t2 : (((s.length + 1 + Sh.zeros s.length : Nat) : Int) % 64 != 56) = false := by rw [bne_eq_false_iff_eq]; exact t1
      obtain ⟨g, cap, rfl, _⟩ := hmr.cell
      have HMR := Lib.hid hmr
      have HBR := Lib.hid hbr
      have HLL := Lib.hid hll
      have hu : IntKind.u64.wrap (s.length : Int) = (s.length : Int) := IntWalk.u64_in _ ⟨by omega, by omega⟩
      have hu2 : IntKind.u64.wrap ((s.length : Int) * 8) = (s.length : Int) * 8 := IntWalk.u64_in _ ⟨by omega, by omega⟩
      have hu3 : (s.length : Int) * 8 = ((8 * s.length : Nat) : Int) := by omega
      clear hmr hbr t1
      simp only [hll]
      clear hll hz
      go_wp2_with fail
      obtain ⟨N, hN⟩ : ∃ N, 8 * s.length = N := ⟨_, rfl⟩
      have hNl : N < 18446744073709551616 := by omega
      have hst : (Value.int .u64 (8 * (s.length : Int))) = .int .u64 ((N / 256 ^ 0 : Nat) : Int) := by rw [Nat.pow_zero, Nat.div_one, ← hN]; congr 1
      have HNN := Lib.hid hN
      have HSTT := Lib.hid hst
      have t3 : (((s.length : Int) + 1 + (Sh.zeros s.length : Int)) % 64 != 56) = false := by rw [bne_eq_false_iff_eq] at t2 ⊢; omega
      simp only [t3]
      clear t3
      clear hst hN hu hu2 hu3 t2
      have hd8 : (Sh.be8 N).drop 8 = [] := List.drop_of_length_le (by rw [Sh.be8_n]; omega)
      go_loopw [4, 5, 6] (fun n tl i wq => ∃ j : Nat, i = .int .i64 j ∧ j ≤ 8 ∧ n = .int .u64 ((N / 256 ^ j : Nat) : Int) ∧ wq.ownsRow w.heap.size 5 1 tl j (((Sh.be8 N).drop (8 - j)).map bv) ∧ MarkRow wq w.heap.size 5 (.slice (some ⟨g, 0, none⟩) (Sh.padB s (Sh.zeros s.length)).length cap) (Sh.padB s (Sh.zeros s.length)) ∧ Below w.heap.size w wq) (fun _ _ i _ => 8 - (intOf i).toNat)
      case atStart => exact ⟨0, rfl, by omega, HSTT.out, by rw [Nat.sub_zero, hd8]; exact World.ownsRow_nil _ _ _ _, HMR.out, HBR.out⟩
      case round =>
        obtain ⟨j, rfl, hj, rfl, hown, hmr, hbr⟩ := hrel
        have hbs2 := hbr.size
        by_cases hlt : j < 8
        · have hstep := Sh.be8_drop N j hlt
          have hy : (UInt8.ofNat (N / 256 ^ j % 256)).toNat = N / 256 ^ j % 256 := Sh.ofN_b' _
          have hnx : N / 256 ^ (j + 1) = N / 256 ^ j / 256 := by rw [Nat.pow_succ, Nat.div_div_eq_div_mul]
          have hxl : N / 256 ^ j < 18446744073709551616 := Nat.lt_of_le_of_lt (Nat.div_le_self _ _) hNl
          obtain ⟨x, hx⟩ : ∃ x, N / 256 ^ j = x := ⟨_, rfl⟩
          rw [hx] at hstep hy hnx hxl
          rw [hx]
          have hb1 : bv (UInt8.ofNat (x % 256)) = .int .u8 ((x : Int) % 256) := by rw [bv, hy]; simp
          have HST := Lib.hid hstep
          have HNX := Lib.hid hnx
          have HMR2 := Lib.hid hmr
          have HBR2 := Lib.hid hbr
          have HB1 := Lib.hid hb1
          have HO := Lib.hid hown
          clear hstep hnx hmr hbr hx hy hb1
          have hso : ∀ (v' : Value) (W : World), W.ownsRow w.heap.size 5 1 v' (1 + j) ([.int .u8 ((x : Int) % 256)] ++ ((Sh.be8 N).drop (8 - j)).map bv) → W.ownsRow w.heap.size 5 1 v' (j + 1) (((Sh.be8 N).drop (8 - (j + 1))).map bv) := by
            intro v' W h
            rw [show 8 - (j + 1) = 7 - j by omega, HST.out, List.map_cons, HB1.out, Nat.add_comm j 1]
            exact h
          have HSO := Lib.hid hso
          clear hso
          have hnew : (wr.alloc (.cells #[.int .u8 ((x : Int) % 256)] 5)).ownsRow w.heap.size 5 1 (.slice (some ⟨wr.heap.size, 0, none⟩) 1 1) 1 [.int .u8 ((x : Int) % 256)] :=
            ⟨rfl, .inr ⟨wr.heap.size, 1, #[.int .u8 ((x : Int) % 256)], rfl, hbs2, heap_alloc_new wr _, Nat.le_refl _, by unfold maxLen; omega, rfl, rfl⟩⟩
          have HNW := Lib.hid hnew
          clear hnew
          rcases hown.2 with ⟨rfl, rfl⟩ | ⟨g2, cap2, cur2, rfl, hg2, _, _, _, _, _⟩
          · go_wp2_with (at_builtin; refine wpList_append_own_none rfl _ _ 83 rfl w.heap.size 5 i0 1 Tryz.underlying83 hi _ _ _ rfl HNW.out rfl ?_)
            have hall := (Below.refl wr.heap.size wr).alloc (Nat.le_refl _) (.cells #[.int .u8 ((x : Int) % 256)] 5)
            go_wp2
            go_roundw
            case rel => exact ⟨0 + 1, rfl, by omega, by rw [HNX.out]; simp, HSO.out _ _ HNW.out, HMR2.out.below hall, HBR2.out.alloc hbs2 _⟩
            case measure => simp [intOf]
          · go_wp2_with (at_builtin; refine wpList_append_own _ rfl _ _ 83 rfl w.heap.size 5 i0 (.int .u8 0) 1 1 Tryz.underlying83 hi hz0 hz1 hz2 rfl (by decide) _ _ _ rfl HNW.out ⟨g2, 0, none⟩ j cap2 (((Sh.be8 N).drop (8 - j)).map bv) rfl HO.out.1 ?c1 ?c2 ?c3 ?c4 ?c5 ?_)
            case c1 => exact (HO.out.alloc _).cells rfl
            case c2 =>
              intro u hu
              obtain ⟨y, _, rfl⟩ := List.mem_map.1 hu
              rfl
            case c3 => unfold maxLen; omega
            case c4 => omega
            case c5 => simp; omega
            intro v4 w4 hown4 hg4 _
            have hall := (Below.refl wr.heap.size wr).alloc (Nat.le_refl _) (.cells #[.int .u8 ((x : Int) % 256)] 5)
            have hm4 := HMR2.out.below hall
            have hlt4 := (hm4.lt g rfl).2
            have HO4 := Lib.hid (HSO.out _ _ (by simpa using hown4))
            have hb4 : Below w.heap.size w w4 := (HBR2.out.alloc hbs2 _).grown hg4 (by simp; omega) (fun k hk => (HNW.out.lt k hk).1)
            have hm5 : MarkRow w4 w.heap.size 5 (.slice (some ⟨g, 0, none⟩) (Sh.padB s (Sh.zeros s.length)).length cap) (Sh.padB s (Sh.zeros s.length)) := by
              obtain ⟨g', cap', cur', fz', he, hr⟩ := hm4
              have hgg := (HMR2.out.lt g rfl).2
              cases he
              refine ⟨g, cap, cur', fz', rfl, hr.1, ?_, hr.2.2⟩
              rw [hg4.block g hlt4 (by simp [Value.ownBlock]; omega)]
              exact hr.2.1
            have HM5 := Lib.hid hm5
            have HB4 := Lib.hid hb4
            clear hown4 hg4 hm4 hm5 hb4 hall hlt4
            go_wp2
            go_roundw
            case rel => exact ⟨j + 1, by go_num, hlt, by rw [HNX.out]; simp, HO4.out, HM5.out, HB4.out⟩
            case measure => simp [intOf]; omega
        · obtain rfl : j = 8 := by omega
          rw [Nat.sub_self, List.drop_zero] at hown
          have hbl := Sh.be8_n N
          have hPB := Sh.pad_B s
          rw [HNN.out] at hPB
          have hpl := HLL.out
          rcases hown.2 with ⟨_, h8⟩ | ⟨g2, cap2, cur2, rfl, hg2, _, _, _, _, _⟩
          · omega
          have hcl := hown.cells rfl
          obtain ⟨_, _, hev, hcell⟩ := hmr.cell
          cases hev
          obtain ⟨P, hP⟩ : ∃ P, Sh.padB s (Sh.zeros s.length) = P := ⟨_, rfl⟩
          obtain ⟨T, hT⟩ : ∃ T, Sh.be8 N = T := ⟨_, rfl⟩
          rw [hP] at hcell hpl hPB
          rw [hT] at hcl hbl hPB
          have hconv := run_convert_bytes_arg (P := Tryz.prog) wr 83 5 Tryz.underlying83 Tryz.underlying5 g 0 _ cap _ (by simp) hcell 9 Tryz.underlying9
          have hcell2 : ∀ i, i < T.length → wr.cell? ⟨g2, 0 + i, none⟩ = some (.int .u8 ((T.map fun y => (y.toNat : Int)).getD i 0)) := by
            intro i hi
            have := hcl i (bv T[i]) (by simp [hi])
            have ha : (⟨g2, 0, none⟩ : Addr).add i = ⟨g2, 0 + i, none⟩ := by unfold Addr.add; split <;> simp_all
            rw [ha] at this
            rw [this]
            simp [bv, List.getD, hi]
          have hconv2 := run_convert_bytes_arg (P := Tryz.prog) wr 83 5 Tryz.underlying83 Tryz.underlying5 g2 0 _ cap2 _ (by simp) hcell2 9 Tryz.underlying9
          rw [strOfNums_bytes] at hconv hconv2
          rw [hbl] at hconv2
          have e1 := fun W => cat_runS P T (by omega) W
          have HF := Lib.hid hPB
          rw [hpl, hP] at *
          clear hcell hcell2 hcl hown hmr hPB
          go_wp2
          go_ret
          exact ⟨by rw [HF.out]; rfl, hbr⟩
end Go.Proofs.YtflmfbcjmjlkbaaGreatDoor
end
section
/- The document's constants. -/
namespace Go.Proofs.YtflmfbcjmjlkbaaGreatDoor
open Go.RowKit

set_option maxRecDepth 100000 in
set_option maxHeartbeats 1000000 in
theorem rwords (w : World) : Calls Tryz.prog 87 #[] w fun e w' => e = .returned (.agg (Sh.words.map uv).toArray) ∧ Below w.heap.size w w' := by
  have hz := ARow.new w 129 (List.replicate 64 0)
  have HZ := Lib.hid hz
  have HG := Lib.hid (show Below w.heap.size w (w.alloc (.cells ((List.replicate 64 0).map uv).toArray 129)) from (Below.refl _ _).alloc (Nat.le_refl _) _)
  clear hz
  go_enter Tryz.func87, Tryz.ntmps87
  go_wp2_with (refine store_arow rfl 129 _ _ rfl w.heap.size (List.replicate 64 0) Sh.words rfl (by kernel_rfl) HZ.out 64 info64 (by simp) Sh.words_len ?_; intro w2 k1 k2 k3)
  refine bodyPost_ret (v := .agg (Sh.words.map uv).toArray) (results_cell_row rfl _ _ w.heap.size 129 _ (0, 0) _ rfl k1 Tryz.underlying129 rfl (by rw [info64]; simp [Sh.words_len])) rfl ⟨rfl, k2 _ _ (Nat.le_refl _) HG.out⟩

set_option maxHeartbeats 1000000 in
theorem rfirst (w : World) : Calls Tryz.prog 57 #[] w fun e w' => e = .returned (.agg (Sh.first.map uv).toArray) ∧ Below w.heap.size w w' := by
  go_enter Tryz.func57, Tryz.ntmps57
  go_wp2
  refine bodyPost_ret (v := .agg (Sh.first.map uv).toArray) (by simp [results, Tryz.results57, go_sem, Sh.first, uv]) rfl ⟨rfl, (Below.refl _ _).alloc (Nat.le_refl _) _⟩
end Go.Proofs.YtflmfbcjmjlkbaaGreatDoor
end
section
/- The document's Block. -/
namespace Sh
theorem head_succ (b : List UInt8) (k : Nat) : (List.range (k + 1)).map (word b) = (List.range k).map (word b) ++ [word b k] := by rw [List.range_succ, List.map_append]; rfl
theorem word_four (b : List UInt8) (k : Nat) (h : 4 * k + 3 < b.length) : ∃ b0 b1 b2 b3 : UInt8, b[4 * k]? = some b0 ∧ b[4 * k + 1]? = some b1 ∧ b[4 * k + 2]? = some b2 ∧ b[4 * k + 3]? = some b3 ∧
    b0.toNat * 16777216 + b1.toNat * 65536 + b2.toNat * 256 + b3.toNat = word b k := by
  refine ⟨b[4 * k], b[4 * k + 1], b[4 * k + 2], b[4 * k + 3], List.getElem?_eq_getElem _, List.getElem?_eq_getElem _, List.getElem?_eq_getElem _, List.getElem?_eq_getElem _, ?_⟩
  have e : (b.drop (4 * k)).take 4 = [b[4 * k], b[4 * k + 1], b[4 * k + 2], b[4 * k + 3]] := by
    rw [List.drop_eq_getElem_cons (show 4 * k < b.length by omega), List.drop_eq_getElem_cons (show 4 * k + 1 < b.length by omega), List.drop_eq_getElem_cons (show 4 * k + 1 + 1 < b.length by omega), List.drop_eq_getElem_cons (show 4 * k + 1 + 1 + 1 < b.length by omega)]
    rfl
  rw [word, e]
  simp [Dg.ofB]
  omega
end Sh
namespace Go.Proofs.YtflmfbcjmjlkbaaGreatDoor
open Go.RowKit
attribute [local go_sem] byte_at
theorem info_word1 : (Tryz.prog.info? 93).map (fun i => (i.zero, i.size, i.bytes)) = some (some (.int .u32 0), 1, 4) := by kernel_rfl

/-- A row of words that the call itself appends to. -/
def WRow (w : World) (base : Nat) (v : Value) (l : List Nat) : Prop := w.ownsRow base 93 1 v l.length (l.map uv)
theorem WRow.cell {w : World} {base : Nat} {v : Value} {l : List Nat} (h : WRow w base v l) (h0 : 0 < l.length) : ∃ g cap, v = .slice (some ⟨g, 0, none⟩) l.length cap ∧ base ≤ g ∧ ∀ i (hi : i < l.length), w.cell? ⟨g, i, none⟩ = some (uv l[i]) := by
  rcases h.2 with ⟨_, h8⟩ | ⟨g, cap, cur, rfl, hb, hg, _⟩
  · omega
  refine ⟨g, cap, rfl, hb, fun i hi => ?_⟩
  have := h.cells rfl i (uv l[i]) (by simp [hi])
  have ha : (⟨g, 0, none⟩ : Addr).add i = ⟨g, i, none⟩ := by unfold Addr.add; split <;> simp_all
  rwa [ha] at this
theorem WRow.below {w w' : World} {base : Nat} {v : Value} {l : List Nat} (h : WRow w base v l) (hb : Below w.heap.size w w') : WRow w' base v l := by
  refine ⟨h.1, ?_⟩
  rcases h.2 with h0 | ⟨g, cap, cur, rfl, hb', hg, r⟩
  · exact .inl h0
  · exact .inr ⟨g, cap, cur, rfl, hb', by rw [hb.block g (Array.getElem?_eq_some_iff.1 hg).1]; exact hg, r⟩
theorem rnext_eq (b : List UInt8) (m x16 x15 x7 x2 : Nat) (h16 : (Sh.ext m (Sh.head b)).getD m 0 = x16) (h15 : (Sh.ext m (Sh.head b)).getD (m + 1) 0 = x15) (h7 : (Sh.ext m (Sh.head b)).getD (m + 9) 0 = x7)
    (h2 : (Sh.ext m (Sh.head b)).getD (m + 14) 0 = x2) (l15 : x15 < 4294967296) (l2 : x2 < 4294967296) :
    ((Sh.next (Sh.ext m (Sh.head b)) : Nat) : Int) = ((x16 : Int) + (Sh.sm0 x15 : Int) + (x7 : Int) + (Sh.sm1 x2 : Int)) % 4294967296 := by
  have h := next_eq b m x16 x15 x7 x2 h16 h15 h7 h2 l15 l2
  rw [sm0_bits _ l15, sm1_bits _ l2] at h
  exact h
theorem rtt_bits (se sf sg sk kv wv : Nat) (le : se < 4294967296) (lf : sf < 4294967296) (lg : sg < 4294967296) :
    (((sk : Int) + bits .xor .u32 (bits .xor .u32 (Sh.rot se 6 : Int) (Sh.rot se 11 : Int)) (Sh.rot se 25 : Int) +
      bits .xor .u32 (bits .and .u32 (se : Int) (sf : Int)) (bits .and .u32 (4294967295 - (se : Int)) (sg : Int)) + (kv : Int)) % 4294967296 + (wv : Int)) % 4294967296 = ((Sh.tt se sf sg sk kv wv : Nat) : Int) := by
  rw [← tt_bits se sf sg sk kv wv le lf lg, not_bits se le, show (4294967295 : Int) - (se : Int) = ((4294967295 - se : Nat) : Int) by omega]
theorem rturn7 (x : Nat) (hx : x < 4294967296) (w : World) : Calls Tryz.prog 85 #[uv x, .int .i64 7] w fun e w' => e = .returned (uv (Sh.rot x 7)) ∧ w' = w := rturn_any x 7 hx (by decide) (by decide) w
theorem rturn18 (x : Nat) (hx : x < 4294967296) (w : World) : Calls Tryz.prog 85 #[uv x, .int .i64 18] w fun e w' => e = .returned (uv (Sh.rot x 18)) ∧ w' = w := rturn_any x 18 hx (by decide) (by decide) w
theorem rturn17 (x : Nat) (hx : x < 4294967296) (w : World) : Calls Tryz.prog 85 #[uv x, .int .i64 17] w fun e w' => e = .returned (uv (Sh.rot x 17)) ∧ w' = w := rturn_any x 17 hx (by decide) (by decide) w
theorem rturn19 (x : Nat) (hx : x < 4294967296) (w : World) : Calls Tryz.prog 85 #[uv x, .int .i64 19] w fun e w' => e = .returned (uv (Sh.rot x 19)) ∧ w' = w := rturn_any x 19 hx (by decide) (by decide) w
theorem rturn6 (x : Nat) (hx : x < 4294967296) (w : World) : Calls Tryz.prog 85 #[uv x, .int .i64 6] w fun e w' => e = .returned (uv (Sh.rot x 6)) ∧ w' = w := rturn_any x 6 hx (by decide) (by decide) w
theorem rturn11 (x : Nat) (hx : x < 4294967296) (w : World) : Calls Tryz.prog 85 #[uv x, .int .i64 11] w fun e w' => e = .returned (uv (Sh.rot x 11)) ∧ w' = w := rturn_any x 11 hx (by decide) (by decide) w
theorem rturn25 (x : Nat) (hx : x < 4294967296) (w : World) : Calls Tryz.prog 85 #[uv x, .int .i64 25] w fun e w' => e = .returned (uv (Sh.rot x 25)) ∧ w' = w := rturn_any x 25 hx (by decide) (by decide) w
theorem rturn2 (x : Nat) (hx : x < 4294967296) (w : World) : Calls Tryz.prog 85 #[uv x, .int .i64 2] w fun e w' => e = .returned (uv (Sh.rot x 2)) ∧ w' = w := rturn_any x 2 hx (by decide) (by decide) w
theorem rturn13 (x : Nat) (hx : x < 4294967296) (w : World) : Calls Tryz.prog 85 #[uv x, .int .i64 13] w fun e w' => e = .returned (uv (Sh.rot x 13)) ∧ w' = w := rturn_any x 13 hx (by decide) (by decide) w
theorem rturn22 (x : Nat) (hx : x < 4294967296) (w : World) : Calls Tryz.prog 85 #[uv x, .int .i64 22] w fun e w' => e = .returned (uv (Sh.rot x 22)) ∧ w' = w := rturn_any x 22 hx (by decide) (by decide) w
theorem rover3 (x : Nat) (hx : x < 4294967296) (w : World) : Calls Tryz.prog 86 #[uv x, .int .i64 3] w fun e w' => e = .returned (.int .u32 ((x : Int) / 8)) ∧ w' = w := by
  have h := rover_any x 3 hx (by decide) w
  rw [show uv (x / 2 ^ 3) = Value.int .u32 ((x : Int) / 8) by simp [uv]] at h
  exact h
theorem rover10 (x : Nat) (hx : x < 4294967296) (w : World) : Calls Tryz.prog 86 #[uv x, .int .i64 10] w fun e w' => e = .returned (.int .u32 ((x : Int) / 1024)) ∧ w' = w := by
  have h := rover_any x 10 hx (by decide) w
  rw [show uv (x / 2 ^ 10) = Value.int .u32 ((x : Int) / 1024) by simp [uv]] at h
  exact h
/-- What the walk keeps: the state that came in, the place of the result. -/
structure Kept (w wr : World) (h : List Nat) : Prop where
  box : ARow wr w.heap.size 94 h
  res : ARow wr (w.heap.size + 1) 94 (List.replicate 8 0)
  bel : Below w.heap.size w wr
theorem Kept.size {w wr : World} {h : List Nat} (k : Kept w wr h) : w.heap.size + 2 ≤ wr.heap.size := by have := k.res.lt; omega
theorem Kept.kept {w wr w' : World} {h : List Nat} (k : Kept w wr h) (hb : Below wr.heap.size wr w') : Kept w w' h := ⟨k.box.kept hb, k.res.kept hb, grow_trans k.bel hb⟩
theorem Kept.alloc {w wr : World} {h : List Nat} (k : Kept w wr h) (o : Obj) : Kept w (wr.alloc o) h := k.kept ((Below.refl _ _).alloc (Nat.le_refl _) o)
theorem Kept.drew {w wr : World} {h : List Nat} (k : Kept w wr h) : Kept w wr.drew h := ⟨k.box, k.res, k.bel.drew⟩
theorem Kept.draws {w wr : World} {h : List Nat} (k : Kept w wr h) (n : Nat) : Kept w (wr.drewN n) h := ⟨k.box.draw n, k.res.draw n, below_drewN k.bel n⟩
theorem Kept.grown {w wr w' : World} {h : List Nat} {row : Option Nat} (k : Kept w wr h) (hg : wr.grownBy w' row) (hr : ∀ j, row = some j → w.heap.size + 2 ≤ j) : Kept w w' h := by
  have h1 := k.box.lt
  have h2 := k.res.lt
  refine ⟨?_, ?_, k.bel.grown hg (by have := k.size; omega) (fun j hj => by have := hr j hj; omega)⟩
  · exact (hg.block _ h1 (fun e => by have := hr _ e.symm; omega)).trans k.box
  · exact (hg.block _ h2 (fun e => by have := hr _ e.symm; omega)).trans k.res

set_option maxHeartbeats 1000000 in
set_option maxRecDepth 100000 in
theorem rblock8 (a b c d e f g k : Nat) (hok : Sh.Ok (a, b, c, d, e, f, g, k)) (bl : List UInt8) (hb : bl.length = 64) (w : World) :
    Calls Tryz.prog 59 #[.agg #[uv a, uv b, uv c, uv d, uv e, uv f, uv g, uv k], tx bl] w fun ee w' => ee = .returned (.tuple #[.agg ((Sh.block [a, b, c, d, e, f, g, k] bl).map uv).toArray, .int .i64 0]) ∧ Below w.heap.size w w' := by
  obtain ⟨i0, hi, hz0, hz1, hz2⟩ := info_parts info_word1
  have t1 : ((bl.length : Int) != 64) = false := by rw [hb]; decide
  have hbox : ARow (w.alloc (.cells #[uv a, uv b, uv c, uv d, uv e, uv f, uv g, uv k] 94)) w.heap.size 94 [a, b, c, d, e, f, g, k] := ARow.new w 94 [a, b, c, d, e, f, g, k]
  have hbox2 := hbox.alloc (.cells #[.int .u32 0, .int .u32 0, .int .u32 0, .int .u32 0, .int .u32 0, .int .u32 0, .int .u32 0, .int .u32 0] 94)
  have hres : ARow ((w.alloc (.cells #[uv a, uv b, uv c, uv d, uv e, uv f, uv g, uv k] 94)).alloc (.cells #[.int .u32 0, .int .u32 0, .int .u32 0, .int .u32 0, .int .u32 0, .int .u32 0, .int .u32 0, .int .u32 0] 94)) (w.heap.size + 1) 94 (List.replicate 8 0) := by
    have := ARow.new (w.alloc (.cells #[uv a, uv b, uv c, uv d, uv e, uv f, uv g, uv k] 94)) 94 (List.replicate 8 0)
    simp only [World.size_alloc] at this
    exact this
  have hg0 : Below w.heap.size w ((w.alloc (.cells #[uv a, uv b, uv c, uv d, uv e, uv f, uv g, uv k] 94)).alloc (.cells #[.int .u32 0, .int .u32 0, .int .u32 0, .int .u32 0, .int .u32 0, .int .u32 0, .int .u32 0, .int .u32 0] 94)) := ((Below.refl _ _).alloc (Nat.le_refl _) _).alloc (by simp) _
  have HK := Lib.hid (Kept.mk hbox2 hres hg0)
  have HBL := Lib.hid hb
  clear hbox hbox2 hres hg0 hb
  go_enter Tryz.func59, Tryz.ntmps59
  go_wp2_with fail
  clear t1
  go_loopw [6, 7] (fun wv i wr => ∃ m : Nat, i = .int .i64 m ∧ m ≤ 16 ∧ WRow wr (w.heap.size + 2) wv ((List.range m).map (Sh.word bl)) ∧ Kept w wr [a, b, c, d, e, f, g, k]) (fun _ i _ => 16 - (intOf i).toNat)
  case atStart => exact ⟨0, rfl, by omega, World.ownsRow_nil _ _ _ _, HK.out⟩
  case round =>
    obtain ⟨m, rfl, hm, hrow, hkp⟩ := hrel
    have hbl := HBL.out
    have hsz := hkp.size
    by_cases hlt : m < 16
    · obtain ⟨b0, b1, b2, b3, q0, q1, q2, q3, qq⟩ := Sh.word_four bl m (by omega)
      have l0 : 4 * m < bl.length := by omega
      have l1 : 4 * m + 1 < bl.length := by omega
      have l2 : 4 * m + 2 < bl.length := by omega
      have l3 : 4 * m + 3 < bl.length := by omega
      obtain ⟨v, hv⟩ : ∃ v, 4 * m = v := ⟨_, rfl⟩
      have em : 4 * (m : Int) = (v : Int) := by omega
      have hvl : v ≤ 60 := by omega
      rw [hv] at q0 q1 q2 q3 l0 l1 l2 l3
      clear hv
      rw [List.getElem?_eq_getElem l0, Option.some.injEq] at q0
      rw [List.getElem?_eq_getElem l1, Option.some.injEq] at q1
      rw [List.getElem?_eq_getElem l2, Option.some.injEq] at q2
      rw [List.getElem?_eq_getElem l3, Option.some.injEq] at q3
      have z0 := b0.toNat_lt
      have z1 := b1.toNat_lt
      have z2 := b2.toNat_lt
      have z3 := b3.toNat_lt
      have u0 : (v : Int) < (bl.length : Int) := by omega
      have u1 : (v : Int) + 1 < (bl.length : Int) := by omega
      have u2 : (v : Int) + 2 < (bl.length : Int) := by omega
      have u3 : (v : Int) + 3 < (bl.length : Int) := by omega
      have a0 : (0 : Int) ≤ (v : Int) := by omega
      have a1 : (0 : Int) ≤ (v : Int) + 1 := by omega
      have a2 : (0 : Int) ≤ (v : Int) + 2 := by omega
      have a3 : (0 : Int) ≤ (v : Int) + 3 := by omega
      have n1 : ((v : Int) + 1).toNat = v + 1 := by omega
      have n2 : ((v : Int) + 2).toNat = v + 2 := by omega
      have n3 : ((v : Int) + 3).toNat = v + 3 := by omega
      have ws0 : IntKind.i64.wrap (v : Int) = (v : Int) := IntWalk.i64_in _ ⟨by omega, by omega⟩
      have ws1 : IntKind.i64.wrap ((v : Int) + 1) = (v : Int) + 1 := IntWalk.i64_in _ ⟨by omega, by omega⟩
      have ws2 : IntKind.i64.wrap ((v : Int) + 2) = (v : Int) + 2 := IntWalk.i64_in _ ⟨by omega, by omega⟩
      have ws3 : IntKind.i64.wrap ((v : Int) + 3) = (v : Int) + 3 := IntWalk.i64_in _ ⟨by omega, by omega⟩
      have k0 : IntKind.u32.wrap (b0.toNat : Int) = (b0.toNat : Int) := by rw [IntKind.wrap_u32']; omega
      have k1 : IntKind.u32.wrap (b1.toNat : Int) = (b1.toNat : Int) := by rw [IntKind.wrap_u32']; omega
      have k2 : IntKind.u32.wrap (b2.toNat : Int) = (b2.toNat : Int) := by rw [IntKind.wrap_u32']; omega
      have k3 : IntKind.u32.wrap (b3.toNat : Int) = (b3.toNat : Int) := by rw [IntKind.wrap_u32']; omega
      have m0 : IntKind.u32.wrap ((b0.toNat : Int) * 16777216) = (b0.toNat : Int) * 16777216 := by rw [IntKind.wrap_u32']; omega
      have m1 : IntKind.u32.wrap ((b1.toNat : Int) * 65536) = (b1.toNat : Int) * 65536 := by rw [IntKind.wrap_u32']; omega
      have m2 : IntKind.u32.wrap ((b2.toNat : Int) * 256) = (b2.toNat : Int) * 256 := by rw [IntKind.wrap_u32']; omega
      have s1 : IntKind.u32.wrap ((b0.toNat : Int) * 16777216 + (b1.toNat : Int) * 65536) = (b0.toNat : Int) * 16777216 + (b1.toNat : Int) * 65536 := by rw [IntKind.wrap_u32']; omega
      have s2 : IntKind.u32.wrap ((b0.toNat : Int) * 16777216 + (b1.toNat : Int) * 65536 + (b2.toNat : Int) * 256) = (b0.toNat : Int) * 16777216 + (b1.toNat : Int) * 65536 + (b2.toNat : Int) * 256 := by rw [IntKind.wrap_u32']; omega
      have s3 : IntKind.u32.wrap ((b0.toNat : Int) * 16777216 + (b1.toNat : Int) * 65536 + (b2.toNat : Int) * 256 + (b3.toNat : Int)) = (b0.toNat : Int) * 16777216 + (b1.toNat : Int) * 65536 + (b2.toNat : Int) * 256 + (b3.toNat : Int) := by rw [IntKind.wrap_u32']; omega
      obtain ⟨x, hx⟩ : ∃ x, Sh.word bl m = x := ⟨_, rfl⟩
      have hsu := Sh.head_succ bl m
      rw [hx] at qq hsu
      have QQ := Lib.hid qq
      have HSU := Lib.hid hsu
      have HR := Lib.hid (show WRow wr.drew (w.heap.size + 2) u6 ((List.range m).map (Sh.word bl)) from hrow.below (Below.drew (Below.refl _ _)))
      have HKP := Lib.hid hkp
      have hml : ((List.range m).map (Sh.word bl)).length = m := by simp
      have HRA := Lib.hid (show ((wr.alloc (.cells #[uv x] 93)).drew).ownsRow (w.heap.size + 2) 93 1 u6 m (((List.range m).map (Sh.word bl)).map uv) by have := HR.out.below (show Below wr.drew.heap.size wr.drew (wr.alloc (.cells #[uv x] 93)).drew from ((Below.refl _ _).alloc (Nat.le_refl _) _)); rw [WRow, hml] at this; exact this)
      have HNW := Lib.hid (show ∀ j u, [uv x][j]? = some u → ((wr.alloc (.cells #[uv x] 93)).drew).cell? ((⟨wr.heap.size, 0, none⟩ : Addr).add j) = some u from new_cell wr _ rfl (uv x) _)
      have HSA := Lib.hid (show w.heap.size + 2 ≤ ((wr.alloc (.cells #[uv x] 93)).drew).heap.size by show _ ≤ (wr.alloc _).heap.size; rw [World.size_alloc]; omega)
      clear qq hsu hrow hkp hx hbl
      go_wp2_with fail
      have EV := Lib.hid (show ((b0.toNat : Int) * 16777216 + (b1.toNat : Int) * 65536 + (b2.toNat : Int) * 256 + (b3.toNat : Int)) = (x : Int) by have := QQ.out; omega)
      refine wp_region_any (by kernel_rfl) ?_
      change wpAny _ _ _ _ _ _ _ (World.drew _)
      refine wpAny_take (i := 0) (v := ?_) rfl (by kernel_rfl) (by kernel_rfl) (by kernel_rfl) (fun _ _ _ h => h) (Or.inl ⟨by rfl, ?_⟩) ?_
      rotate_left
      focus (intro w; go_simp; try (with_reducible rfl))
      refine wpAny_take (i := 1) (v := ?_) rfl (by kernel_rfl) (by kernel_rfl) (by kernel_rfl) (fun _ _ _ h => h) (Or.inl ⟨by rfl, ?_⟩) ?_
      rotate_left
      focus (intro w; go_simp; try (with_reducible rfl))
      refine wpAny_take (i := 2) (v := ?_) rfl (by kernel_rfl) (by kernel_rfl) (by kernel_rfl) (fun _ _ _ h => h) (Or.inl ⟨by rfl, ?_⟩) ?_
      rotate_left
      focus (intro w; go_simp; try (with_reducible rfl))
      refine wpAny_take (i := 3) (v := ?_) rfl (by kernel_rfl) (by kernel_rfl) (by kernel_rfl) (fun _ _ _ h => h) (Or.inl ⟨by rfl, ?_⟩) ?_
      rotate_left
      focus (intro w; go_simp; try (with_reducible rfl))
      refine wpAny_take (i := 4) (v := ?_) rfl (by kernel_rfl) (by kernel_rfl) (by kernel_rfl) (fun _ _ _ h => h) (Or.inl ⟨by rfl, ?_⟩) ?_
      rotate_left
      focus (intro w; go_simp; try (with_reducible rfl))
      refine wpAny_take (i := 5) (v := ?_) rfl (by kernel_rfl) (by kernel_rfl) (by kernel_rfl) (fun _ _ _ h => h) (Or.inl ⟨by rfl, ?_⟩) ?_
      rotate_left
      focus (intro w; go_simp; try (with_reducible rfl))
      refine wpAny_take (i := 6) (v := ?_) rfl (by kernel_rfl) (by kernel_rfl) (by kernel_rfl) (fun _ _ _ h => h) (Or.inl ⟨by rfl, ?_⟩) ?_
      rotate_left
      focus (intro w; go_simp; try (with_reducible rfl))
      refine wpAny_take (i := 7) (v := ?_) rfl (by kernel_rfl) (by kernel_rfl) (by kernel_rfl) (fun _ _ _ h => h) (Or.inl ⟨by rfl, ?_⟩) ?_
      rotate_left
      focus (intro w; go_simp; try (with_reducible rfl))
      refine wpAny_take (i := 8) (v := ?_) rfl (by kernel_rfl) (by kernel_rfl) (by kernel_rfl) (fun _ _ _ h => h) (Or.inl ⟨by rfl, ?_⟩) ?_
      rotate_left
      focus (intro w; go_simp; try (with_reducible rfl))
      refine wpAny_take (i := 9) (v := ?_) rfl (by kernel_rfl) (by kernel_rfl) (by kernel_rfl) (fun _ _ _ h => h) (Or.inl ⟨by rfl, ?_⟩) ?_
      rotate_left
      focus (intro w; go_simp; try (with_reducible rfl))
      refine wpAny_take (i := 10) (v := ?_) rfl (by kernel_rfl) (by kernel_rfl) (by kernel_rfl) (fun _ _ _ h => h) (Or.inl ⟨by rfl, ?_⟩) ?_
      rotate_left
      focus (intro w; go_simp; try (with_reducible rfl))
      refine wpAny_take (i := 11) (v := ?_) rfl (by kernel_rfl) (by kernel_rfl) (by kernel_rfl) (fun _ _ _ h => h) (Or.inl ⟨by rfl, ?_⟩) ?_
      rotate_left
      focus (intro w; go_simp; try (with_reducible rfl))
      refine wpAny_take (i := 12) (v := ?_) rfl (by kernel_rfl) (by kernel_rfl) (by kernel_rfl) (fun _ _ _ h => h) (Or.inl ⟨by rfl, ?_⟩) ?_
      rotate_left
      focus (intro w; go_simp; try (with_reducible rfl))
      refine wpAny_take (i := 13) (v := ?_) rfl (by kernel_rfl) (by kernel_rfl) (by kernel_rfl) (fun _ _ _ h => h) (Or.inl ⟨by rfl, ?_⟩) ?_
      rotate_left
      focus (intro w; go_simp; try (with_reducible rfl))
      refine wpAny_take (i := 14) (v := ?_) rfl (by kernel_rfl) (by kernel_rfl) (by kernel_rfl) (fun _ _ _ h => h) (Or.inl ⟨by rfl, ?_⟩) ?_
      rotate_left
      focus (intro w; go_simp; try (with_reducible rfl))
      refine wpAny_take (i := 15) (v := ?_) rfl (by kernel_rfl) (by kernel_rfl) (by kernel_rfl) (fun _ _ _ h => h) (Or.inl ⟨by rfl, ?_⟩) ?_
      rotate_left
      focus (intro w; go_simp; try (with_reducible rfl))
      refine wpAny_take (i := 16) (v := ?_) rfl (by kernel_rfl) (by kernel_rfl) (by kernel_rfl) (fun _ _ _ h => h) (Or.inl ⟨by rfl, ?_⟩) ?_
      rotate_left
      focus (intro w; go_simp; try (with_reducible rfl))
      refine wpAny_take (i := 17) (v := ?_) rfl (by kernel_rfl) (by kernel_rfl) (by kernel_rfl) (fun _ _ _ h => h) (Or.inl ⟨by rfl, ?_⟩) ?_
      rotate_left
      focus (intro w; go_simp; try (with_reducible rfl))
      refine wpAny_take (i := 18) (v := ?_) rfl (by kernel_rfl) (by kernel_rfl) (by kernel_rfl) (fun _ _ _ h => h) (Or.inl ⟨by rfl, ?_⟩) ?_
      rotate_left
      focus (intro w; go_simp; try (with_reducible rfl))
      refine wpAny_take (i := 19) (v := ?_) rfl (by kernel_rfl) (by kernel_rfl) (by kernel_rfl) (fun _ _ _ h => h) (Or.inl ⟨by rfl, ?_⟩) ?_
      rotate_left
      focus (intro w; go_simp; try (with_reducible rfl))
      refine wpAny_take (i := 20) (v := ?_) rfl (by kernel_rfl) (by kernel_rfl) (by kernel_rfl) (fun _ _ _ h => h) (Or.inl ⟨by rfl, ?_⟩) ?_
      rotate_left
      focus (intro w; go_simp; try (with_reducible rfl))
      refine wpAny_take (i := 21) (v := ?_) rfl (by kernel_rfl) (by kernel_rfl) (by kernel_rfl) (fun _ _ _ h => h) (Or.inl ⟨by rfl, ?_⟩) ?_
      rotate_left
      focus (intro w; go_simp; try (with_reducible rfl))
      refine wpAny_take (i := 22) (v := ?_) rfl (by kernel_rfl) (by kernel_rfl) (by kernel_rfl) (fun _ _ _ h => h) (Or.inl ⟨by rfl, ?_⟩) ?_
      rotate_left
      focus (intro w; go_simp; try (with_reducible rfl))
      refine wpAny_take (i := 23) (v := ?_) rfl (by kernel_rfl) (by kernel_rfl) (by kernel_rfl) (fun _ _ _ h => h) (Or.inl ⟨by rfl, ?_⟩) ?_
      rotate_left
      focus (intro w; go_simp; try (with_reducible rfl))
      refine wpAny_take (i := 24) (v := ?_) rfl (by kernel_rfl) (by kernel_rfl) (by kernel_rfl) (fun _ _ _ h => h) (Or.inl ⟨by rfl, ?_⟩) ?_
      rotate_left
      focus (intro w; go_simp; try (with_reducible rfl))
      refine wpAny_take (i := 25) (v := ?_) rfl (by kernel_rfl) (by kernel_rfl) (by kernel_rfl) (fun _ _ _ h => h) (Or.inl ⟨by rfl, ?_⟩) ?_
      rotate_left
      focus (intro w; go_simp; try (with_reducible rfl))
      refine wpAny_take (i := 26) (v := ?_) rfl (by kernel_rfl) (by kernel_rfl) (by kernel_rfl) (fun _ _ _ h => h) (Or.inl ⟨by rfl, ?_⟩) ?_
      rotate_left
      focus (intro w; go_simp; try (with_reducible rfl))
      refine wpAny_take (i := 27) (v := ?_) rfl (by kernel_rfl) (by kernel_rfl) (by kernel_rfl) (fun _ _ _ h => h) (Or.inl ⟨by rfl, ?_⟩) ?_
      rotate_left
      focus (intro w; go_simp; try (with_reducible rfl))
      refine wpAny_take (i := 28) (v := ?_) rfl (by kernel_rfl) (by kernel_rfl) (by kernel_rfl) (fun _ _ _ h => h) (Or.inl ⟨by rfl, ?_⟩) ?_
      rotate_left
      focus (intro w; go_simp; try (with_reducible rfl))
      refine wpAny_take (i := 29) (v := ?_) rfl (by kernel_rfl) (by kernel_rfl) (by kernel_rfl) (fun _ _ _ h => h) (Or.inl ⟨by rfl, ?_⟩) ?_
      rotate_left
      focus (intro w; go_simp; try (with_reducible rfl))
      rw [EV.out]
      refine wpAny_ready (rs := [30]) (by kernel_rfl) (by simp) ?_
      refine AllReady.cons rfl (fun K hK => ?_) AllReady.nil
      go_simp
      refine hK _ _ ?_
      clear hK K
      refine wpAny_ready (rs := [31]) (by kernel_rfl) (by simp) ?_
      refine AllReady.cons rfl (fun K hK => ?_) AllReady.nil
      refine step_append_lies _ (by rfl) (.tmp 36) (.tmp 66) 127 (by rfl) (w.heap.size + 2) 93 i0 (.int .u32 0) 1 4 Tryz.underlying127 hi hz0 hz1 hz2 rfl (by decide) u6 m ((((List.range m).map (Sh.word bl)).map uv)) (by rfl) HRA.out ⟨wr.heap.size, 0, none⟩ 1 1 [uv x] (by rfl) (by rfl) HNW.out (by intro u hu; simp at hu; subst hu; rfl) (by decide) (by unfold maxLen; omega) (by omega) HSA.out _ (by rfl) ?_
      intro v4 c4 w4 hown hg _ _
      try go_simp
      refine hK _ _ ?_
      clear hK K
      refine wpAny_take (i := 32) (v := ?_) rfl (by kernel_rfl) (by kernel_rfl) (by kernel_rfl) (fun _ _ _ h => h) (Or.inl ⟨by rfl, ?_⟩) ?_
      rotate_left
      focus (intro w; go_simp; try (with_reducible rfl))
      refine wpAny_done (by kernel_rfl) ?_ _
      have hkp4 := (HKP.out.alloc (.cells #[uv x] 93)).drew.grown hg (fun j hj => (HRA.out.lt j hj).1)
      have hr4 : WRow w4 (w.heap.size + 2) (.slice (some ⟨v4, 0, none⟩) (m + 1) c4) ((List.range (m + 1)).map (Sh.word bl)) := by
        rw [HSU.out]
        unfold WRow
        rw [List.length_append, List.map_append, hml]
        exact hown
      have HKP4 := Lib.hid hkp4
      have HR4 := Lib.hid hr4
      clear hkp4 hr4 hown hg q0 q1 q2 q3 k0 k1 k2 k3 m0 m1 m2 s1 s2 s3 ws0 ws1 ws2 ws3 u0 u1 u2 u3 a0 a1 a2 a3 n1 n2 n3 z0 z1 z2 z3
      go_wp2
      go_roundw
      case rel => exact ⟨m + 1, by go_num, hlt, HR4.out, HKP4.out⟩
      case measure => simp [intOf]; omega
    · obtain rfl : m = 16 := by omega
      have HR := Lib.hid (show WRow wr (w.heap.size + 2) u6 (Sh.ext 0 (Sh.head bl)) from hrow)
      have HKP := Lib.hid hkp
      clear hrow hkp hbl hsz
      go_wp2_with fail
      simp only [Int.cast_ofNat_Int]
      go_loopw [6, 8] (fun wv i wr => ∃ m : Nat, i = .int .i64 (m + 16 : Nat) ∧ m ≤ 48 ∧ WRow wr (w.heap.size + 2) wv (Sh.ext m (Sh.head bl)) ∧ Kept w wr [a, b, c, d, e, f, g, k]) (fun _ i _ => 64 - (intOf i).toNat)
      case atStart => exact ⟨0, rfl, by omega, HR.out, HKP.out⟩
      case round =>
        obtain ⟨m, rfl, hm, hrow, hkp⟩ := hrel
        have hsz := hkp.size
        have hel : (Sh.ext m (Sh.head bl)).length = m + 16 := by rw [Sh.ext_len, Sh.head_len]; omega
        by_cases hlt : m < 48
        · obtain ⟨gb, cap, rfl, hgb, hcl⟩ := hrow.cell (by omega)
          have hE := Sh.getD_lt _ (Sh.ext_lt m _ (Sh.head_lt bl))
          have c15 := hcl (m + 1) (by omega)
          have c2 := hcl (m + 14) (by omega)
          have c16 := hcl m (by omega)
          have c7 := hcl (m + 9) (by omega)
          obtain ⟨x15, h15⟩ : ∃ x, (Sh.ext m (Sh.head bl)).getD (m + 1) 0 = x := ⟨_, rfl⟩
          obtain ⟨x2, h2⟩ : ∃ x, (Sh.ext m (Sh.head bl)).getD (m + 14) 0 = x := ⟨_, rfl⟩
          obtain ⟨x16, h16'⟩ : ∃ x, (Sh.ext m (Sh.head bl)).getD m 0 = x := ⟨_, rfl⟩
          obtain ⟨x7, h7⟩ : ∃ x, (Sh.ext m (Sh.head bl)).getD (m + 9) 0 = x := ⟨_, rfl⟩
          have l15 : x15 < 4294967296 := by rw [← h15]; exact hE _
          have l2 : x2 < 4294967296 := by rw [← h2]; exact hE _
          rw [show (Sh.ext m (Sh.head bl))[m + 1]'(by omega) = x15 by rw [← h15, List.getD, List.getElem?_eq_getElem (by omega)]; rfl] at c15
          rw [show (Sh.ext m (Sh.head bl))[m + 14]'(by omega) = x2 by rw [← h2, List.getD, List.getElem?_eq_getElem (by omega)]; rfl] at c2
          rw [show (Sh.ext m (Sh.head bl))[m]'(by omega) = x16 by rw [← h16', List.getD, List.getElem?_eq_getElem (by omega)]; rfl] at c16
          rw [show (Sh.ext m (Sh.head bl))[m + 9]'(by omega) = x7 by rw [← h7, List.getD, List.getElem?_eq_getElem (by omega)]; rfl] at c7
          have HNX := Lib.hid (rnext_eq bl m x16 x15 x7 x2 h16' h15 h7 h2 l15 l2)
          have HES := Lib.hid (Sh.ext_succ m (Sh.head bl))
          obtain ⟨x, hx⟩ : ∃ x, Sh.next (Sh.ext m (Sh.head bl)) = x := ⟨_, rfl⟩
          rw [hx] at HNX HES
          have HRW := Lib.hid hrow
          have HKP2 := Lib.hid hkp
          have HEL := Lib.hid hel
          simp only [hel]
          clear h15 h2 h16' h7 hE hcl hrow hkp hx hel
          have f3 : IntKind.i64.wrap (m : Int) = (m : Int) := IntWalk.i64_in _ ⟨by omega, by omega⟩
          have f4 : IntKind.i64.wrap ((m : Int) + 16 - 7) = ((m + 9 : Nat) : Int) := by rw [IntWalk.i64_in _ ⟨by omega, by omega⟩]; omega
          have q7 : (0 : Int) ≤ (m : Int) := by omega
          have q8 : (m : Int) < (m : Int) + 16 := by omega
          have q10 : (0 : Int) ≤ (m : Int) + 9 := by omega
          have q11 : (m : Int) + 9 < (m : Int) + 16 := by omega
          have q12 : ((m : Int) + 9).toNat = m + 9 := by omega
          have e1 : IntKind.i64.wrap (((m + 16 : Nat) : Int) - 15) = ((m + 1 : Nat) : Int) := by rw [IntWalk.i64_in _ ⟨by omega, by omega⟩]; omega
          have e2 : IntKind.i64.wrap (((m + 16 : Nat) : Int) - 2) = ((m + 14 : Nat) : Int) := by rw [IntWalk.i64_in _ ⟨by omega, by omega⟩]; omega
          have e3 : IntKind.i64.wrap (((m + 16 : Nat) : Int) - 16) = ((m : Nat) : Int) := by rw [IntWalk.i64_in _ ⟨by omega, by omega⟩]; omega
          have e4 : IntKind.i64.wrap (((m + 16 : Nat) : Int) - 7) = ((m + 9 : Nat) : Int) := by rw [IntWalk.i64_in _ ⟨by omega, by omega⟩]; omega
          go_wp2_with fail
          refine (rturn7 x15 l15 _).mono ?_
          rintro ee v1 ⟨rfl, rfl⟩
          go_wp2_with fail
          refine (rturn18 x15 l15 _).mono ?_
          rintro ee v1 ⟨rfl, rfl⟩
          go_wp2_with fail
          refine (rover3 x15 l15 _).mono ?_
          rintro ee v1 ⟨rfl, rfl⟩
          go_wp2_with fail
          refine (rturn17 x2 l2 _).mono ?_
          rintro ee v1 ⟨rfl, rfl⟩
          go_wp2_with fail
          refine (rturn19 x2 l2 _).mono ?_
          rintro ee v1 ⟨rfl, rfl⟩
          go_wp2_with fail
          refine (rover10 x2 l2 _).mono ?_
          rintro ee v1 ⟨rfl, rfl⟩
          have SM0 := Lib.hid (sm0_bits x15 l15)
          have SM1 := Lib.hid (sm1_bits x2 l2)
          go_wp2_with fail
          rw [SM0.out, SM1.out]
          generalize Sh.sm0 x15 = P0 at *
          generalize Sh.sm1 x2 = P1 at *
          have d16 : v1.drew.cell? ⟨gb, m, none⟩ = some (uv x16) := c16
          have d7 : v1.drew.cell? ⟨gb, m + 9, none⟩ = some (uv x7) := c7
          clear c15 c2 c16 c7 SM0 SM1
          have HEQ := Lib.hid (show uv x = Value.int .u32 (IntKind.u32.wrap (IntKind.u32.wrap (IntKind.u32.wrap ((x16 : Int) + (P0 : Int)) + (x7 : Int)) + (P1 : Int))) by rw [uv, HNX.out, IntKind.wrap_u32', IntKind.wrap_u32', IntKind.wrap_u32']; congr 1; omega)
          have HRA := Lib.hid (show ((v1.alloc (.cells #[.int .u32 (IntKind.u32.wrap (IntKind.u32.wrap (IntKind.u32.wrap ((x16 : Int) + (P0 : Int)) + (x7 : Int)) + (P1 : Int)))] 93)).drew).ownsRow (w.heap.size + 2) 93 1 (.slice (some ⟨gb, 0, none⟩) (m + 16) cap) (m + 16) ((Sh.ext m (Sh.head bl)).map uv) by have := HRW.out.below (show Below v1.heap.size v1 ((v1.alloc (.cells #[.int .u32 (IntKind.u32.wrap (IntKind.u32.wrap (IntKind.u32.wrap ((x16 : Int) + (P0 : Int)) + (x7 : Int)) + (P1 : Int)))] 93)).drew) from ((Below.refl _ _).alloc (Nat.le_refl _) _).drew); rw [WRow, HEL.out] at this; exact this)
          have HNW := Lib.hid (show ∀ j u, [Value.int .u32 (IntKind.u32.wrap (IntKind.u32.wrap (IntKind.u32.wrap ((x16 : Int) + (P0 : Int)) + (x7 : Int)) + (P1 : Int)))][j]? = some u → ((v1.alloc (.cells #[.int .u32 (IntKind.u32.wrap (IntKind.u32.wrap (IntKind.u32.wrap ((x16 : Int) + (P0 : Int)) + (x7 : Int)) + (P1 : Int)))] 93)).drew).cell? ((⟨v1.heap.size, 0, none⟩ : Addr).add j) = some u from new_cell v1 _ rfl _ _)
          have HSA := Lib.hid (show w.heap.size + 2 ≤ ((v1.alloc (.cells #[.int .u32 (IntKind.u32.wrap (IntKind.u32.wrap (IntKind.u32.wrap ((x16 : Int) + (P0 : Int)) + (x7 : Int)) + (P1 : Int)))] 93)).drew).heap.size by show _ ≤ (v1.alloc _).heap.size; rw [World.size_alloc]; omega)
          refine wp_region_any (by kernel_rfl) ?_
          change wpAny _ _ _ _ _ _ _ (World.drew _)
          refine wpAny_take (i := 0) (v := ?_) rfl (by kernel_rfl) (by kernel_rfl) (by kernel_rfl) (fun _ _ _ h => h) (Or.inl ⟨by rfl, ?_⟩) ?_
          rotate_left
          focus (intro w; go_simp; try (with_reducible rfl))
          refine wpAny_take (i := 1) (v := ?_) rfl (by kernel_rfl) (by kernel_rfl) (by kernel_rfl) (fun _ _ _ h => h) (Or.inl ⟨by rfl, ?_⟩) ?_
          rotate_left
          focus (intro w; go_simp; try (with_reducible rfl))
          refine wpAny_take (i := 2) (v := ?_) rfl (by kernel_rfl) (by kernel_rfl) (by kernel_rfl) (fun _ _ _ h => h) (Or.inl ⟨by rfl, ?_⟩) ?_
          rotate_left
          focus (intro w; go_simp; try (with_reducible rfl))
          refine wpAny_take (i := 3) (v := ?_) rfl (by kernel_rfl) (by kernel_rfl) (by kernel_rfl) (fun _ _ _ h => h) (Or.inl ⟨by rfl, ?_⟩) ?_
          rotate_left
          focus (intro w; go_simp; try (with_reducible rfl))
          refine wpAny_take (i := 4) (v := ?_) rfl (by kernel_rfl) (by kernel_rfl) (by kernel_rfl) (fun _ _ _ h => h) (Or.inl ⟨by rfl, ?_⟩) ?_
          rotate_left
          focus (intro w; go_simp; try (with_reducible rfl))
          refine wpAny_take (i := 6) (v := ?_) rfl (by kernel_rfl) (by kernel_rfl) (by kernel_rfl) (fun _ _ _ h => h) (Or.inl ⟨by rfl, ?_⟩) ?_
          rotate_left
          focus (intro w; go_simp; try (with_reducible rfl))
          refine wpAny_take (i := 8) (v := ?_) rfl (by kernel_rfl) (by kernel_rfl) (by kernel_rfl) (fun _ _ _ h => h) (Or.inl ⟨by rfl, ?_⟩) ?_
          rotate_left
          focus (intro w; go_simp; try (with_reducible rfl))
          refine wpAny_take (i := 9) (v := ?_) rfl (by kernel_rfl) (by kernel_rfl) (by kernel_rfl) (fun _ _ _ h => h) (Or.inl ⟨by rfl, ?_⟩) ?_
          rotate_left
          focus (intro w; go_simp; try (with_reducible rfl))
          refine wpAny_take (i := 10) (v := ?_) rfl (by kernel_rfl) (by kernel_rfl) (by kernel_rfl) (fun _ _ _ h => h) (Or.inl ⟨by rfl, ?_⟩) ?_
          rotate_left
          focus (intro w; go_simp; try (with_reducible rfl))
          refine wpAny_take (i := 11) (v := ?_) rfl (by kernel_rfl) (by kernel_rfl) (by kernel_rfl) (fun _ _ _ h => h) (Or.inl ⟨by rfl, ?_⟩) ?_
          rotate_left
          focus (intro w; go_simp; try (with_reducible rfl))
          refine wpAny_take (i := 14) (v := ?_) rfl (by kernel_rfl) (by kernel_rfl) (by kernel_rfl) (fun _ _ _ h => h) (Or.inl ⟨by rfl, ?_⟩) ?_
          rotate_left
          focus (intro w; go_simp; try (with_reducible rfl))
          refine wpAny_ready (rs := [5, 12]) (by kernel_rfl) (by simp) ?_
          refine AllReady.cons rfl (fun K hK => ?_) (AllReady.cons rfl (fun K hK => ?_) AllReady.nil)
          · go_simp
            refine hK _ _ ?_
            clear hK K
            refine wpAny_take (i := 7) (v := ?_) rfl (by kernel_rfl) (by kernel_rfl) (by kernel_rfl) (fun _ _ _ h => h) (Or.inl ⟨by rfl, ?_⟩) ?_
            rotate_left
            focus (intro w; go_simp; try (with_reducible rfl))
            refine wpAny_ready (rs := [12]) (by kernel_rfl) (by simp) ?_
            refine AllReady.cons rfl (fun K hK => ?_) AllReady.nil
            go_simp
            refine hK _ _ ?_
            clear hK K
            refine wpAny_take (i := 13) (v := ?_) rfl (by kernel_rfl) (by kernel_rfl) (by kernel_rfl) (fun _ _ _ h => h) (Or.inl ⟨by rfl, ?_⟩) ?_
            rotate_left
            focus (intro w; go_simp; try (with_reducible rfl))
            refine wpAny_take (i := 15) (v := ?_) rfl (by kernel_rfl) (by kernel_rfl) (by kernel_rfl) (fun _ _ _ h => h) (Or.inl ⟨by rfl, ?_⟩) ?_
            rotate_left
            focus (intro w; go_simp; try (with_reducible rfl))
            refine wpAny_ready (rs := [16]) (by kernel_rfl) (by simp) ?_
            refine AllReady.cons rfl (fun K hK => ?_) AllReady.nil
            go_simp
            refine hK _ _ ?_
            clear hK K
            refine wpAny_ready (rs := [17]) (by kernel_rfl) (by simp) ?_
            refine AllReady.cons rfl (fun K hK => ?_) AllReady.nil
            refine step_append_lies _ (by rfl) (.tmp 98) (.tmp 114) 127 (by rfl) (w.heap.size + 2) 93 i0 (.int .u32 0) 1 4 Tryz.underlying127 hi hz0 hz1 hz2 rfl (by decide) (.slice (some ⟨gb, 0, none⟩) (m + 16) cap) (m + 16) ((Sh.ext m (Sh.head bl)).map uv) (by rfl) HRA.out ⟨v1.heap.size, 0, none⟩ 1 1 [Value.int .u32 (IntKind.u32.wrap (IntKind.u32.wrap (IntKind.u32.wrap ((x16 : Int) + (P0 : Int)) + (x7 : Int)) + (P1 : Int)))] (by rfl) (by rfl) HNW.out (by intro u hu; simp at hu; subst hu; rfl) (by decide) (by unfold maxLen; omega) (by omega) HSA.out _ (by rfl) ?_
            intro v4 c4 w4 hown hg _ _
            try go_simp
            refine hK _ _ ?_
            clear hK K
            refine wpAny_take (i := 18) (v := ?_) rfl (by kernel_rfl) (by kernel_rfl) (by kernel_rfl) (fun _ _ _ h => h) (Or.inl ⟨by rfl, ?_⟩) ?_
            rotate_left
            focus (intro w; go_simp; try (with_reducible rfl))
            refine wpAny_done (by kernel_rfl) ?_ _
            have hkp4 := (HKP2.out.alloc (.cells #[.int .u32 (IntKind.u32.wrap (IntKind.u32.wrap (IntKind.u32.wrap ((x16 : Int) + (P0 : Int)) + (x7 : Int)) + (P1 : Int)))] 93)).drew.grown hg (fun j hj => (HRA.out.lt j hj).1)
            have hr4 : WRow w4 (w.heap.size + 2) (.slice (some ⟨v4, 0, none⟩) (m + 16 + 1) c4) (Sh.ext (m + 1) (Sh.head bl)) := by
              rw [HES.out]
              unfold WRow
              rw [List.length_append, List.map_append, HEL.out, List.map_cons, HEQ.out]
              exact hown
            have HKP4 := Lib.hid hkp4
            have HR4 := Lib.hid hr4
            clear hkp4 hr4 hown hg e1 e2 e3 e4 d16 d7
            go_wp2
            go_roundw
            case rel => exact ⟨m + 1, by go_num, hlt, HR4.out, HKP4.out⟩
            case measure => simp [intOf]; omega
          · go_simp
            refine hK _ _ ?_
            clear hK K
            refine wpAny_ready (rs := [5]) (by kernel_rfl) (by simp) ?_
            refine AllReady.cons rfl (fun K hK => ?_) AllReady.nil
            go_simp
            refine hK _ _ ?_
            clear hK K
            refine wpAny_take (i := 7) (v := ?_) rfl (by kernel_rfl) (by kernel_rfl) (by kernel_rfl) (fun _ _ _ h => h) (Or.inl ⟨by rfl, ?_⟩) ?_
            rotate_left
            focus (intro w; go_simp; try (with_reducible rfl))
            refine wpAny_take (i := 13) (v := ?_) rfl (by kernel_rfl) (by kernel_rfl) (by kernel_rfl) (fun _ _ _ h => h) (Or.inl ⟨by rfl, ?_⟩) ?_
            rotate_left
            focus (intro w; go_simp; try (with_reducible rfl))
            refine wpAny_take (i := 15) (v := ?_) rfl (by kernel_rfl) (by kernel_rfl) (by kernel_rfl) (fun _ _ _ h => h) (Or.inl ⟨by rfl, ?_⟩) ?_
            rotate_left
            focus (intro w; go_simp; try (with_reducible rfl))
            refine wpAny_ready (rs := [16]) (by kernel_rfl) (by simp) ?_
            refine AllReady.cons rfl (fun K hK => ?_) AllReady.nil
            go_simp
            refine hK _ _ ?_
            clear hK K
            refine wpAny_ready (rs := [17]) (by kernel_rfl) (by simp) ?_
            refine AllReady.cons rfl (fun K hK => ?_) AllReady.nil
            refine step_append_lies _ (by rfl) (.tmp 98) (.tmp 114) 127 (by rfl) (w.heap.size + 2) 93 i0 (.int .u32 0) 1 4 Tryz.underlying127 hi hz0 hz1 hz2 rfl (by decide) (.slice (some ⟨gb, 0, none⟩) (m + 16) cap) (m + 16) ((Sh.ext m (Sh.head bl)).map uv) (by rfl) HRA.out ⟨v1.heap.size, 0, none⟩ 1 1 [Value.int .u32 (IntKind.u32.wrap (IntKind.u32.wrap (IntKind.u32.wrap ((x16 : Int) + (P0 : Int)) + (x7 : Int)) + (P1 : Int)))] (by rfl) (by rfl) HNW.out (by intro u hu; simp at hu; subst hu; rfl) (by decide) (by unfold maxLen; omega) (by omega) HSA.out _ (by rfl) ?_
            intro v4 c4 w4 hown hg _ _
            try go_simp
            refine hK _ _ ?_
            clear hK K
            refine wpAny_take (i := 18) (v := ?_) rfl (by kernel_rfl) (by kernel_rfl) (by kernel_rfl) (fun _ _ _ h => h) (Or.inl ⟨by rfl, ?_⟩) ?_
            rotate_left
            focus (intro w; go_simp; try (with_reducible rfl))
            refine wpAny_done (by kernel_rfl) ?_ _
            have hkp4 := (HKP2.out.alloc (.cells #[.int .u32 (IntKind.u32.wrap (IntKind.u32.wrap (IntKind.u32.wrap ((x16 : Int) + (P0 : Int)) + (x7 : Int)) + (P1 : Int)))] 93)).drew.grown hg (fun j hj => (HRA.out.lt j hj).1)
            have hr4 : WRow w4 (w.heap.size + 2) (.slice (some ⟨v4, 0, none⟩) (m + 16 + 1) c4) (Sh.ext (m + 1) (Sh.head bl)) := by
              rw [HES.out]
              unfold WRow
              rw [List.length_append, List.map_append, HEL.out, List.map_cons, HEQ.out]
              exact hown
            have HKP4 := Lib.hid hkp4
            have HR4 := Lib.hid hr4
            clear hkp4 hr4 hown hg e1 e2 e3 e4 d16 d7
            go_wp2
            go_roundw
            case rel => exact ⟨m + 1, by go_num, hlt, HR4.out, HKP4.out⟩
            case measure => simp [intOf]; omega
        · obtain rfl : m = 48 := by omega
          obtain ⟨ws, hws⟩ : ∃ ws, Sh.sched bl = ws := ⟨_, rfl⟩
          have hwl : ws.length = 64 := by rw [← hws]; exact Sh.sched_len bl
          have hwt : ∀ x ∈ ws, x < 4294967296 := by rw [← hws]; exact Sh.sched_lt bl
          have hrow2 : WRow wr (w.heap.size + 2) u6 ws := by rw [← hws]; exact hrow
          obtain ⟨gb, cap, rfl, hgb, _⟩ := hrow2.cell (by omega)
          have HRW := Lib.hid hrow2
          have HKP3 := Lib.hid hkp
          have HWS := Lib.hid hws
          have HWL := Lib.hid hwl
          have HWT := Lib.hid hwt
          simp only [hwl]
          clear hrow hkp hws hwl hwt hrow2 hel hlt
          go_wp2_with fail
          obtain ⟨cw, hcw⟩ : ∃ cw, Sh.words = cw := ⟨_, rfl⟩
          have hcl0 : cw.length = 64 := by rw [← hcw]; exact Sh.words_len
          have HCW := Lib.hid hcw
          have HRWD := Lib.hid (rwords wr)
          rw [hcw] at HRWD
          clear hcw
          refine HRWD.out.mono ?_
          rintro ee w6 ⟨rfl, hb6⟩
          have hk6 := HKP3.out.kept hb6
          have hr6 := HRW.out.below hb6
          have hs6 := hk6.size
          have HZ := Lib.hid (ARow.new w6 129 (List.replicate 64 0))
          have HK6 := Lib.hid hk6
          have HR6 := Lib.hid hr6
          clear hb6 hk6 hr6
          go_wp2_with (refine store_arow rfl 129 _ _ rfl w6.heap.size (List.replicate 64 0) cw rfl rfl HZ.out 64 info64 (by simp) hcl0 ?_; intro w7 k1 k2 k3; have HB7 := Lib.hid (k2 _ _ (Nat.le_refl _) ((Below.refl w6.heap.size w6).alloc (Nat.le_refl _) _)); have HK7 := Lib.hid (HK6.out.kept HB7.out); have HW7 := Lib.hid k1; have hx7 := HK7.out.box; have c0 : w7.cell? ⟨w.heap.size, 0, none⟩ = some (uv a) := hx7.cell 0 (by simp); have c1 : w7.cell? ⟨w.heap.size, 1, none⟩ = some (uv b) := hx7.cell 1 (by simp); have c2 : w7.cell? ⟨w.heap.size, 2, none⟩ = some (uv c) := hx7.cell 2 (by simp); have c3 : w7.cell? ⟨w.heap.size, 3, none⟩ = some (uv d) := hx7.cell 3 (by simp); have c4 : w7.cell? ⟨w.heap.size, 4, none⟩ = some (uv e) := hx7.cell 4 (by simp); have c5 : w7.cell? ⟨w.heap.size, 5, none⟩ = some (uv f) := hx7.cell 5 (by simp); have c6 : w7.cell? ⟨w.heap.size, 6, none⟩ = some (uv g) := hx7.cell 6 (by simp); have c7 : w7.cell? ⟨w.heap.size, 7, none⟩ = some (uv k) := hx7.cell 7 (by simp); clear k1 k2 k3 hx7)
          have hr7 := HR6.out.below HB7.out
          obtain ⟨_, _, hev, _, hcl⟩ := hr7.cell (by rw [HWL.out]; decide)
          cases hev
          have HCL := Lib.hid hcl
          clear hr7 hcl c0 c1 c2 c3 c4 c5 c6 c7 HK6 HR6 HZ HRW HKP3
          go_loopw [14, 15, 16, 17, 18, 19, 20, 21, 22] (fun ta tb tc td te tf tg tk i wr => ∃ (n : Nat) (s : Sh.St), i = .int .i64 n ∧ n ≤ 64 ∧ s = Sh.rounds (a, b, c, d, e, f, g, k) ws n ∧ ta = uv s.1 ∧ tb = uv s.2.1 ∧ tc = uv s.2.2.1 ∧ td = uv s.2.2.2.1 ∧ te = uv s.2.2.2.2.1 ∧ tf = uv s.2.2.2.2.2.1 ∧ tg = uv s.2.2.2.2.2.2.1 ∧ tk = uv s.2.2.2.2.2.2.2 ∧ ∃ q, wr = w7.drewN q) (fun _ _ _ _ _ _ _ _ i _ => 64 - (intOf i).toNat)
          case atStart => exact ⟨0, _, rfl, by omega, rfl, rfl, rfl, rfl, rfl, rfl, rfl, rfl, rfl, 0, rfl⟩
          case round =>
            obtain ⟨n, s, rfl, hn, hs, rfl, rfl, rfl, rfl, rfl, rfl, rfl, rfl, q, rfl⟩ := hrel
            by_cases hlt : n < 64
            · have hok2 := Sh.rounds_ok (a, b, c, d, e, f, g, k) ws hok n
              rw [← hs] at hok2
              obtain ⟨sa, sb, sc, sd, se, sf, sg, sk⟩ := s
              obtain ⟨la, lb, lc, ld, le, lf, lg, lk⟩ := hok2
              simp only [] at la lb lc ld le lf lg lk
              have hnl : n < ws.length := by rw [HWL.out]; exact hlt
              have hwn : (w7.drewN q).cell? ⟨gb, n, none⟩ = some (uv ws[n]) := HCL.out n hnl
              have hwl : ws[n] < 4294967296 := HWT.out _ (List.getElem_mem _)
              have hgn : (w7.drewN q).cell? ⟨w6.heap.size, n, none⟩ = some (uv (cw[n]'(by rw [hcl0]; exact hlt))) := (HW7.out.draw q).cell n (by rw [hcl0]; exact hlt)
              have hkl : cw[n]'(by rw [hcl0]; exact hlt) < 4294967296 := by
                have h1 := Sh.words_lt n
                rw [HCW.out, List.getD, List.getElem?_eq_getElem (by rw [hcl0]; exact hlt)] at h1
                exact h1
              have hk0 : Sh.words.getD n 0 = cw[n]'(by rw [hcl0]; exact hlt) := by rw [HCW.out, List.getD, List.getElem?_eq_getElem (by rw [hcl0]; exact hlt)]; rfl
              have hw0 : ws.getD n 0 = ws[n] := by rw [List.getD, List.getElem?_eq_getElem hnl]; rfl
              obtain ⟨wv, hwv⟩ : ∃ x, ws[n] = x := ⟨_, rfl⟩
              obtain ⟨kv, hkv⟩ : ∃ x, cw[n]'(by rw [hcl0]; exact hlt) = x := ⟨_, rfl⟩
              rw [hwv] at hwn hwl hw0
              rw [hkv] at hgn hkl hk0
              have HS1 := Lib.hid hs
              have HWV := Lib.hid hw0
              have HKV := Lib.hid hk0
              clear hs hwv hkv hk0 hw0
              obtain ⟨wq, hq⟩ : ∃ x, w7.drewN q = x := ⟨_, rfl⟩
              rw [hq] at hwn hgn ⊢
              have HQ := Lib.hid hq
              clear hq
              have n1 : (0 : Int) ≤ (n : Int) := by omega
              have n2 : (n : Int) < 64 := by omega
              go_wp2_with fail
              refine (rturn6 se le _).mono ?_
              rintro ee v1 ⟨rfl, rfl⟩
              go_wp2_with fail
              refine (rturn11 se le _).mono ?_
              rintro ee v1 ⟨rfl, rfl⟩
              go_wp2_with fail
              refine (rturn25 se le _).mono ?_
              rintro ee v1 ⟨rfl, rfl⟩
              go_wp2_with fail
              have HTT := Lib.hid (rtt_bits se sf sg sk kv wv le lf lg)
              obtain ⟨T, hT⟩ : ∃ T, Sh.tt se sf sg sk kv wv = T := ⟨_, rfl⟩
              rw [hT] at HTT
              have HT := Lib.hid hT
              clear hT
              go_quiet (fail)
              rw [HTT.out]
              go_wp2_with fail
              refine (rturn2 sa la _).mono ?_
              rintro ee v2 ⟨rfl, rfl⟩
              go_wp2_with fail
              refine (rturn13 sa la _).mono ?_
              rintro ee v2 ⟨rfl, rfl⟩
              go_wp2_with fail
              refine (rturn22 sa la _).mono ?_
              rintro ee v2 ⟨rfl, rfl⟩
              go_wp2
              go_roundw
              case rel =>
                refine ⟨n + 1, (Sh.add T (Sh.uu sa sb sc), sa, sb, sc, Sh.add sd T, se, sf, sg), by go_num, by omega, ?_, ?_, rfl, rfl, rfl, ?_, rfl, rfl, rfl, q + nq, ?_⟩
                · rw [Sh.rounds, ← HS1.out, HKV.out, HWV.out, ← HT.out]; rfl
                · rw [uu_bits sa sb sc la lb lc]; simp [uv, Sh.add]
                · simp [uv, Sh.add]
                · rw [← World.drewN_drewN, HQ.out]
              case measure => simp [intOf]; omega
            · obtain rfl : n = 64 := by omega
              obtain ⟨sa, sb, sc, sd, se, sf, sg, sk⟩ := s
              have HSB := Lib.hid (show Sh.block [a, b, c, d, e, f, g, k] bl = [Sh.add a sa, Sh.add b sb, Sh.add c sc, Sh.add d sd, Sh.add e se, Sh.add f sf, Sh.add g sg, Sh.add k sk] by
                rw [Sh.block, HWS.out, show Sh.ofL [a, b, c, d, e, f, g, k] = (a, b, c, d, e, f, g, k) from rfl, ← hs]; rfl)
              have HK8 := Lib.hid (HK7.out.draws q)
              clear hs HK7 HW7 HCL HB7
              generalize w7.drewN q = w8 at *
              have hx8 := HK8.out.box
              have c0 : w8.cell? ⟨w.heap.size, 0, none⟩ = some (uv a) := hx8.cell 0 (by simp)
              have c1 : w8.cell? ⟨w.heap.size, 1, none⟩ = some (uv b) := hx8.cell 1 (by simp)
              have c2 : w8.cell? ⟨w.heap.size, 2, none⟩ = some (uv c) := hx8.cell 2 (by simp)
              have c3 : w8.cell? ⟨w.heap.size, 3, none⟩ = some (uv d) := hx8.cell 3 (by simp)
              have c4 : w8.cell? ⟨w.heap.size, 4, none⟩ = some (uv e) := hx8.cell 4 (by simp)
              have c5 : w8.cell? ⟨w.heap.size, 5, none⟩ = some (uv f) := hx8.cell 5 (by simp)
              have c6 : w8.cell? ⟨w.heap.size, 6, none⟩ = some (uv g) := hx8.cell 6 (by simp)
              have c7 : w8.cell? ⟨w.heap.size, 7, none⟩ = some (uv k) := hx8.cell 7 (by simp)
              clear hx8
              have ea : uv (Sh.add a sa) = Value.int .u32 ((((a : Nat) : Int) + ((sa : Nat) : Int)) % 4294967296) := by simp [uv, Sh.add]
              have eb : uv (Sh.add b sb) = Value.int .u32 ((((b : Nat) : Int) + ((sb : Nat) : Int)) % 4294967296) := by simp [uv, Sh.add]
              have ec : uv (Sh.add c sc) = Value.int .u32 ((((c : Nat) : Int) + ((sc : Nat) : Int)) % 4294967296) := by simp [uv, Sh.add]
              have ed : uv (Sh.add d sd) = Value.int .u32 ((((d : Nat) : Int) + ((sd : Nat) : Int)) % 4294967296) := by simp [uv, Sh.add]
              have ee : uv (Sh.add e se) = Value.int .u32 ((((e : Nat) : Int) + ((se : Nat) : Int)) % 4294967296) := by simp [uv, Sh.add]
              have ef : uv (Sh.add f sf) = Value.int .u32 ((((f : Nat) : Int) + ((sf : Nat) : Int)) % 4294967296) := by simp [uv, Sh.add]
              have eg : uv (Sh.add g sg) = Value.int .u32 ((((g : Nat) : Int) + ((sg : Nat) : Int)) % 4294967296) := by simp [uv, Sh.add]
              have ek : uv (Sh.add k sk) = Value.int .u32 ((((k : Nat) : Int) + ((sk : Nat) : Int)) % 4294967296) := by simp [uv, Sh.add]
              have hy : (Value.agg ([Sh.add a sa, Sh.add b sb, Sh.add c sc, Sh.add d sd, Sh.add e se, Sh.add f sf, Sh.add g sg, Sh.add k sk].map uv).toArray) = .agg #[Value.int .u32 ((((a : Nat) : Int) + ((sa : Nat) : Int)) % 4294967296), Value.int .u32 ((((b : Nat) : Int) + ((sb : Nat) : Int)) % 4294967296), Value.int .u32 ((((c : Nat) : Int) + ((sc : Nat) : Int)) % 4294967296), Value.int .u32 ((((d : Nat) : Int) + ((sd : Nat) : Int)) % 4294967296), Value.int .u32 ((((e : Nat) : Int) + ((se : Nat) : Int)) % 4294967296), Value.int .u32 ((((f : Nat) : Int) + ((sf : Nat) : Int)) % 4294967296), Value.int .u32 ((((g : Nat) : Int) + ((sg : Nat) : Int)) % 4294967296), Value.int .u32 ((((k : Nat) : Int) + ((sk : Nat) : Int)) % 4294967296)] := by
                simp only [List.map_cons, List.map_nil, ea, eb, ec, ed, ee, ef, eg, ek]
              have HY := Lib.hid hy
              clear hy ea eb ec ed ee ef eg ek
              go_wp2_with (refine store_arow rfl 94 _ _ rfl (w.heap.size + 1) (List.replicate 8 0) [Sh.add a sa, Sh.add b sb, Sh.add c sc, Sh.add d sd, Sh.add e se, Sh.add f sf, Sh.add g sg, Sh.add k sk] rfl HY.out.symm HK8.out.res 8 info8 (by simp) rfl ?_; intro w9 k1 k2 k3)
              have d0 : w9.cell? ⟨w.heap.size + 1, 0, none⟩ = some (uv (Sh.add a sa)) := k1.cell 0 (by simp)
              have d1 : w9.cell? ⟨w.heap.size + 1, 1, none⟩ = some (uv (Sh.add b sb)) := k1.cell 1 (by simp)
              have d2 : w9.cell? ⟨w.heap.size + 1, 2, none⟩ = some (uv (Sh.add c sc)) := k1.cell 2 (by simp)
              have d3 : w9.cell? ⟨w.heap.size + 1, 3, none⟩ = some (uv (Sh.add d sd)) := k1.cell 3 (by simp)
              have d4 : w9.cell? ⟨w.heap.size + 1, 4, none⟩ = some (uv (Sh.add e se)) := k1.cell 4 (by simp)
              have d5 : w9.cell? ⟨w.heap.size + 1, 5, none⟩ = some (uv (Sh.add f sf)) := k1.cell 5 (by simp)
              have d6 : w9.cell? ⟨w.heap.size + 1, 6, none⟩ = some (uv (Sh.add g sg)) := k1.cell 6 (by simp)
              have d7 : w9.cell? ⟨w.heap.size + 1, 7, none⟩ = some (uv (Sh.add k sk)) := k1.cell 7 (by simp)
              refine bodyPost_ret (v := .tuple #[.agg #[uv (Sh.add a sa), uv (Sh.add b sb), uv (Sh.add c sc), uv (Sh.add d sd), uv (Sh.add e se), uv (Sh.add f sf), uv (Sh.add g sg), uv (Sh.add k sk)], .int .i64 0]) (by simp [results, Tryz.results59, go_sem, d0, d1, d2, d3, d4, d5, d6, d7]) rfl ⟨by rw [HSB.out]; rfl, k2 _ _ (by omega) HK8.out.bel⟩
end Go.Proofs.YtflmfbcjmjlkbaaGreatDoor
end
section
/- The document's Sum. -/
namespace Sh
theorem spell_cons (x : Nat) (l : List Nat) : spell (x :: l) = be4 x ++ spell l := rfl
theorem spell_take (l : List Nat) : ∀ j (hj : j < l.length), (spell l).take (4 * (j + 1)) = (spell l).take (4 * j) ++ be4 l[j] := by
  induction l with
  | nil => intro j hj; exact absurd hj (by simp)
  | cons x l ih =>
    intro j hj
    have h4 : (be4 x).length = 4 := rfl
    cases j with
    | zero => rw [spell_cons, List.take_append]; simp [be4]
    | succ j =>
      have := ih j (by simpa using hj)
      rw [spell_cons, List.take_append, List.take_append, h4, show 4 * (j + 1 + 1) - 4 = 4 * (j + 1) by omega, show 4 * (j + 1) - 4 = 4 * j by omega, this, List.take_of_length_le (i := 4 * (j + 1 + 1)) (by omega), List.take_of_length_le (i := 4 * (j + 1)) (by omega), List.append_assoc]
      rfl
theorem spell_lenL (l : List Nat) : (spell l).length = 4 * l.length := by
  induction l with
  | nil => rfl
  | cons x l ih => rw [spell_cons, List.length_append, ih, List.length_cons]; show 4 + _ = _; omega
end Sh
namespace Go.Proofs.YtflmfbcjmjlkbaaGreatDoor
open Go.RowKit
theorem new_cells (W : World) (vs : List Value) (t : TypeId) : ∀ j u, vs[j]? = some u → ((W.alloc (.cells vs.toArray t)).drew).cell? ((⟨W.heap.size, 0, none⟩ : Addr).add j) = some u := by
  intro j u h
  have ha : (⟨W.heap.size, 0, none⟩ : Addr).add j = ⟨W.heap.size, j, none⟩ := by unfold Addr.add; split <;> simp_all
  rw [ha]
  show (W.alloc (.cells vs.toArray t)).cell? ⟨W.heap.size, j, none⟩ = some u
  rw [World.cell?_alloc_at _ _ _ _ rfl]
  simpa using h
theorem be4_bv (x : Nat) (h : x < 4294967296) : (Sh.be4 x).map bv = [.int .u8 ((x : Int) / 16777216), .int .u8 ((x : Int) / 65536 % 256), .int .u8 ((x : Int) / 256 % 256), .int .u8 ((x : Int) % 256)] := by
  have e : ∀ y : Nat, bv (UInt8.ofNat (y % 256)) = .int .u8 ((y : Int) % 256) := fun y => by rw [bv, UInt8.toNat_ofNat', show (y % 256) % 2 ^ 8 = y % 256 by omega]; simp
  simp only [Sh.be4, List.map_cons, List.map_nil, e]
  rw [show ((x / 16777216 : Nat) : Int) % 256 = (x : Int) / 16777216 by omega]
  simp
theorem rpad_eqS {s r : List UInt8} (h : Sh.pad s = r) (hs : s.length ≤ 140737488351232) (w : World) :
    Calls Tryz.prog 58 #[tx s] w fun e w' => e = .returned (tx r) ∧ Below w.heap.size w w' := by subst h; exact rpad s hs w

set_option maxHeartbeats 2000000 in
set_option maxRecDepth 100000 in
theorem rsum (s : List UInt8) (hs : s.length ≤ 140737488351232) (w : World) :
    Calls Tryz.prog 30 #[tx s] w fun e w' => e = .returned (tx (Sh.sum s)) ∧ Below w.heap.size w w' := by
  obtain ⟨i0, hi, hz0, hz1, hz2⟩ := info_parts info_byte1
  obtain ⟨p, hp⟩ : ∃ p, Sh.pad s = p := ⟨_, rfl⟩
  have hp64 := Sh.pad_64 s
  have hpl := Sh.pad_len s
  have hz := Sh.zeros_lt s.length
  rw [hp] at hp64 hpl
  obtain ⟨N, hN⟩ : ∃ N, p.length = 64 * N := ⟨p.length / 64, by omega⟩
  have HSM := Lib.hid (show Sh.sum s = Sh.spell (Sh.after p N) by rw [Sh.sum, hp, hN, Nat.mul_div_cancel_left _ (by decide)])
  have HPD := Lib.hid (fun W => rpad_eqS hp hs W)
  have hNb : p.length ≤ 140737488351304 := by omega
  have HN := Lib.hid hN
  clear hp hp64 hpl hz hs hN
  go_enter Tryz.func30, Tryz.ntmps30
  go_wp2_with fail
  refine (rfirst _).mono ?_
  rintro e w1 ⟨rfl, hb1⟩
  have hx := ARow.new w1 94 (List.replicate 8 0)
  have HX0 := Lib.hid hx
  have HB0 := Lib.hid (hb1.alloc hb1.size (.cells ((List.replicate 8 0).map uv).toArray 94))
  have hB0 : w.heap.size ≤ w1.heap.size := hb1.size
  clear hx hb1
  go_wp2_with (refine store_arow rfl 94 _ _ rfl w1.heap.size (List.replicate 8 0) Sh.first rfl rfl HX0.out 8 info8 (by simp) rfl ?_; intro w3 k1 k2 k3)
  have HX := Lib.hid k1
  have HB := Lib.hid (k2 w.heap.size w hB0 HB0.out)
  clear k1 k2 k3 HX0 HB0
  refine (HPD.out _).mono ?_
  rintro e w4 ⟨rfl, hb4⟩
  have HX4 := Lib.hid (HX.out.kept hb4)
  have HB4 := Lib.hid (grow_trans HB.out hb4)
  clear hb4 HX HB
  go_wp2_with fail
  go_loopw [5] (fun i wr => ∃ (n m : Nat), i = .int .i64 m ∧ n ≤ N ∧ m = 64 * n ∧ ARow wr w1.heap.size 94 (Sh.after p n) ∧ Below w.heap.size w wr) (fun i _ => 64 * N - (intOf i).toNat)
  case atStart => exact ⟨0, 0, rfl, by omega, rfl, HX4.out, HB4.out⟩
  case round =>
    obtain ⟨n, m, rfl, hn, hm, hx, hbel⟩ := hrel
    obtain ⟨a, b, c, d, e, f, g, k, hh⟩ := Sh.eight _ (Sh.after_len p n)
    have hok := Sh.after_ok p n a b c d e f g k hh
    have hsz := hx.lt
    have HH := Lib.hid hh
    have HM := Lib.hid hm
    rw [hh] at hx
    have HX2 := Lib.hid hx
    have HB2 := Lib.hid hbel
    clear hx hbel hh hm
    by_cases hlt : n < N
    · have hml : m + 64 ≤ p.length := by rw [HN.out, HM.out]; omega
      have t1 : decide ((m : Int) < (p.length : Int)) = true := decide_eq_true (by omega)
      have c0 : wr.cell? ⟨w1.heap.size, 0, none⟩ = some (uv a) := HX2.out.cell 0 (by simp)
      have c1 : wr.cell? ⟨w1.heap.size, 1, none⟩ = some (uv b) := HX2.out.cell 1 (by simp)
      have c2 : wr.cell? ⟨w1.heap.size, 2, none⟩ = some (uv c) := HX2.out.cell 2 (by simp)
      have c3 : wr.cell? ⟨w1.heap.size, 3, none⟩ = some (uv d) := HX2.out.cell 3 (by simp)
      have c4 : wr.cell? ⟨w1.heap.size, 4, none⟩ = some (uv e) := HX2.out.cell 4 (by simp)
      have c5 : wr.cell? ⟨w1.heap.size, 5, none⟩ = some (uv f) := HX2.out.cell 5 (by simp)
      have c6 : wr.cell? ⟨w1.heap.size, 6, none⟩ = some (uv g) := HX2.out.cell 6 (by simp)
      have c7 : wr.cell? ⟨w1.heap.size, 7, none⟩ = some (uv k) := HX2.out.cell 7 (by simp)
      have w1' : IntKind.i64.wrap ((m : Int) + 64) = (m : Int) + 64 := IntWalk.i64_in _ ⟨by omega, by omega⟩
      have w2' : (0 : Int) ≤ (m : Int) := by omega
      have w3' : (m : Int) ≤ (m : Int) + 64 := by omega
      have w4' : (m : Int) + 64 ≤ (p.length : Int) := by omega
      have w5' : ((m : Int) + 64).toNat = m + 64 := by omega
      go_wp2_with fail
      have hbl : ((p.drop m).take 64).length = 64 := by simp; omega
      obtain ⟨x0, x1, x2, x3, x4, x5, x6, x7, hxx⟩ := Sh.eight (Sh.after p (n + 1)) (Sh.after_len p (n + 1))
      have hNX : Sh.block [a, b, c, d, e, f, g, k] ((p.drop m).take 64) = [x0, x1, x2, x3, x4, x5, x6, x7] := by rw [← hxx, Sh.after, HH.out, HM.out]
      have HXX := Lib.hid hxx
      have hcl : ∀ W, Calls Tryz.prog 59 #[.agg #[uv a, uv b, uv c, uv d, uv e, uv f, uv g, uv k], tx ((p.drop m).take 64)] W fun ee w' => ee = .returned (.tuple #[.agg #[uv x0, uv x1, uv x2, uv x3, uv x4, uv x5, uv x6, uv x7], .int .i64 0]) ∧ Below W.heap.size W w' := by
        intro W
        have := rblock8 a b c d e f g k hok _ hbl W
        rw [hNX] at this
        exact this
      have HCL := Lib.hid hcl
      have HBA := Lib.hid (show (ByteArray.mk p.toArray).extract m (m + 64) = ByteArray.mk ((p.drop m).take 64).toArray by rw [ba_mid, Nat.add_sub_cancel_left])
      have HX3 := Lib.hid (show ARow wr.drew w1.heap.size 94 [a, b, c, d, e, f, g, k] from HX2.out)
      have HB3 := Lib.hid (show Below w.heap.size w wr.drew from HB2.out.drew)
      have w6' := HBA.out
      clear hxx hNX hcl hbl
      go_region_with (go_at_call 59; refine (HCL.out _).mono ?_; rintro ee w4 ⟨rfl, hb4⟩; have HX5 := Lib.hid (HX3.out.kept hb4); have HB5 := Lib.hid (grow_trans HB3.out hb4); clear hb4; have f0 := HX5.out.frozen 0; have f1 := HX5.out.frozen 1; have f2 := HX5.out.frozen 2; have f3 := HX5.out.frozen 3; have f4 := HX5.out.frozen 4; have f5 := HX5.out.frozen 5; have f6 := HX5.out.frozen 6; have f7 := HX5.out.frozen 7; have y0 : w4.cell? ⟨w1.heap.size, 0, none⟩ = some (uv a) := HX5.out.cell 0 (by simp); have y1 : w4.cell? ⟨w1.heap.size, 1, none⟩ = some (uv b) := HX5.out.cell 1 (by simp); have y2 : w4.cell? ⟨w1.heap.size, 2, none⟩ = some (uv c) := HX5.out.cell 2 (by simp); have y3 : w4.cell? ⟨w1.heap.size, 3, none⟩ = some (uv d) := HX5.out.cell 3 (by simp); have y4 : w4.cell? ⟨w1.heap.size, 4, none⟩ = some (uv e) := HX5.out.cell 4 (by simp); have y5 : w4.cell? ⟨w1.heap.size, 5, none⟩ = some (uv f) := HX5.out.cell 5 (by simp); have y6 : w4.cell? ⟨w1.heap.size, 6, none⟩ = some (uv g) := HX5.out.cell 6 (by simp); have y7 : w4.cell? ⟨w1.heap.size, 7, none⟩ = some (uv k) := HX5.out.cell 7 (by simp))
      all_goals
        have z8 := ((((((((HX5.out.set 0 x0).set 1 x1).set 2 x2).set 3 x3).set 4 x4).set 5 x5).set 6 x6).set 7 x7)
        have b8 := ((((((((HB5.out.setCell (p := ⟨w1.heap.size, 0, none⟩) hB0 (uv x0)).setCell (p := ⟨w1.heap.size, 1, none⟩) hB0 (uv x1)).setCell (p := ⟨w1.heap.size, 2, none⟩) hB0 (uv x2)).setCell (p := ⟨w1.heap.size, 3, none⟩) hB0 (uv x3)).setCell (p := ⟨w1.heap.size, 4, none⟩) hB0 (uv x4)).setCell (p := ⟨w1.heap.size, 5, none⟩) hB0 (uv x5)).setCell (p := ⟨w1.heap.size, 6, none⟩) hB0 (uv x6)).setCell (p := ⟨w1.heap.size, 7, none⟩) hB0 (uv x7))
        have e9 : (((((((([a, b, c, d, e, f, g, k].set 0 x0).set 1 x1).set 2 x2).set 3 x3).set 4 x4).set 5 x5).set 6 x6).set 7 x7) = Sh.after p (n + 1) := by rw [HXX.out]; rfl
        rw [e9] at z8
        have HZ9 := Lib.hid z8
        have HB9 := Lib.hid b8
        clear z8 e9 b8 f0 f1 f2 f3 f4 f5 f6 f7 y0 y1 y2 y3 y4 y5 y6 y7 c0 c1 c2 c3 c4 c5 c6 c7 w6'
        go_wp2
        go_roundw
        case rel => exact ⟨n + 1, m + 64, by go_num, hlt, by rw [HM.out]; omega, HZ9.out, HB9.out⟩
        case measure =>
          have := HM.out
          simp [intOf]
          omega
    · obtain rfl : n = N := by omega
      have t1 : decide (m < p.length) = false := decide_eq_false (by rw [HN.out, HM.out]; omega)
      have t2 : ¬ m < p.length := by rw [HN.out, HM.out]; omega
      obtain ⟨L, hLL⟩ : ∃ L, Sh.after p n = L := ⟨_, rfl⟩
      have hLn : L.length = 8 := by rw [← hLL]; exact Sh.after_len p n
      have hLt : ∀ x ∈ L, x < 4294967296 := by rw [← hLL]; exact Sh.after_lt p n
      have hx := HX2.out
      have hsm := HSM.out
      rw [← HH.out, hLL] at hx
      rw [hLL] at hsm
      have HX3 := Lib.hid hx
      have HB3 := Lib.hid HB2.out
      have HSP := Lib.hid hsm
      have HLT := Lib.hid hLt
      clear hLL hx hsm HH HX2 HSM HB2 hok hsz hLt
      go_wp2_with fail
      clear t1 t2
      have hx3 := HX3.out.lt
      go_loopw [6, 7] (fun ov i wr => ∃ j : Nat, i = .int .i64 j ∧ j ≤ 8 ∧ wr.ownsRow (w1.heap.size + 1) 5 1 ov (4 * j) (((Sh.spell L).take (4 * j)).map bv) ∧ ARow wr w1.heap.size 94 L ∧ Below w.heap.size w wr) (fun _ i _ => 8 - (intOf i).toNat)
      case atStart => exact ⟨0, rfl, by omega, World.ownsRow_nil _ _ _ _, HX3.out, HB3.out⟩
      case round =>
        obtain ⟨j, rfl, hj, hown, hx, hbel⟩ := hrel
        have hxl := hx.lt
        by_cases hlt : j < 8
        · have hjl : j < L.length := by omega
          have cl := hx.cell j hjl
          have hst := Sh.spell_take L j hjl
          have hlx := HLT.out _ (List.getElem_mem hjl)
          obtain ⟨x, hxx⟩ : ∃ x, L[j] = x := ⟨_, rfl⟩
          rw [hxx] at cl hst hlx
          have HST := Lib.hid hst
          have HOW := Lib.hid hown
          have HX6 := Lib.hid hx
          have HB6 := Lib.hid hbel
          clear hxx hst hown hx hbel
          have j0 : (0 : Int) ≤ (j : Int) := by omega
          have j1 : (j : Int) < 8 := by omega
          have A0 : IntKind.u32.wrap ((x : Int) / 16777216) = (x : Int) / 16777216 := by rw [IntKind.wrap_u32']; omega
          have A1 : IntKind.u32.wrap ((x : Int) / 65536) = (x : Int) / 65536 := by rw [IntKind.wrap_u32']; omega
          have A2 : IntKind.u32.wrap ((x : Int) / 256) = (x : Int) / 256 := by rw [IntKind.wrap_u32']; omega
          have T1 : ((x : Int) / 65536).tmod 256 = (x : Int) / 65536 % 256 := Int.tmod_eq_emod_of_nonneg (by omega)
          have T2 : ((x : Int) / 256).tmod 256 = (x : Int) / 256 % 256 := Int.tmod_eq_emod_of_nonneg (by omega)
          have T3 : (x : Int).tmod 256 = (x : Int) % 256 := Int.tmod_eq_emod_of_nonneg (by omega)
          have U0 : IntKind.u8.wrap ((x : Int) / 16777216) = (x : Int) / 16777216 := by rw [IntKind.wrap_u8']; omega
          have U1 : IntKind.u8.wrap ((x : Int) / 65536 % 256) = (x : Int) / 65536 % 256 := by rw [IntKind.wrap_u8']; omega
          have U2 : IntKind.u8.wrap ((x : Int) / 256 % 256) = (x : Int) / 256 % 256 := by rw [IntKind.wrap_u8']; omega
          have U3 : IntKind.u8.wrap ((x : Int) % 256) = (x : Int) % 256 := by rw [IntKind.wrap_u8']; omega
          have HKA := Lib.hid (fun o : Obj => show ((wr.alloc o).drew).cell? ⟨w1.heap.size, j, none⟩ = some (uv x) from (World.cell?_alloc_past _ _ _ hxl).trans cl)
          have HOA := Lib.hid (show ((wr.alloc (.cells #[.int .u8 ((x : Int) / 16777216), .int .u8 ((x : Int) / 65536 % 256), .int .u8 ((x : Int) / 256 % 256), .int .u8 ((x : Int) % 256)] 5)).drew).ownsRow (w1.heap.size + 1) 5 1 u6 (4 * j) (((Sh.spell L).take (4 * j)).map bv) from HOW.out.alloc (.cells #[.int .u8 ((x : Int) / 16777216), .int .u8 ((x : Int) / 65536 % 256), .int .u8 ((x : Int) / 256 % 256), .int .u8 ((x : Int) % 256)] 5))
          have HNW := Lib.hid (new_cells wr [.int .u8 ((x : Int) / 16777216), .int .u8 ((x : Int) / 65536 % 256), .int .u8 ((x : Int) / 256 % 256), .int .u8 ((x : Int) % 256)] 5)
          have HON := Lib.hid (show ∀ u ∈ ([.int .u8 ((x : Int) / 16777216), .int .u8 ((x : Int) / 65536 % 256), .int .u8 ((x : Int) / 256 % 256), .int .u8 ((x : Int) % 256)] : List Value), u.oneCell' = true by intro u hu; simp at hu; rcases hu with rfl | rfl | rfl | rfl <;> rfl)
          have HSA := Lib.hid (show w1.heap.size + 1 ≤ ((wr.alloc (.cells #[.int .u8 ((x : Int) / 16777216), .int .u8 ((x : Int) / 65536 % 256), .int .u8 ((x : Int) / 256 % 256), .int .u8 ((x : Int) % 256)] 5)).drew).heap.size by show _ ≤ (wr.alloc _).heap.size; rw [World.size_alloc]; omega)
          have HNE := Lib.hid (show some w1.heap.size ≠ u6.ownBlock from fun e => by have := (HOW.out.lt _ e.symm).1; omega)
          have h63 : 4 * j + 4 ≤ maxLen := by unfold maxLen; omega
          have hby : (4 * j + 4) * 1 ≤ 140737488355328 := by omega
          have hS : (fun w' : World => w'.cell? ⟨w1.heap.size, j, none⟩ = some (uv x)) wr.drew := cl
          go_wp2_with fail
          go_region_held_law (fun w' : World => w'.cell? ⟨w1.heap.size, j, none⟩ = some (uv x))
            (first | assumption | exact HKA.out _ | exact World.grownBy.cell (by assumption) (HKA.out _) HNE.out)
            (first | (refine step_append_lies _ (by rfl) (.tmp 31) (.tmp 54) 83 (by rfl) (w1.heap.size + 1) 5 i0 (.int .u8 0) 1 1 Tryz.underlying83 hi hz0 hz1 hz2 rfl (by decide) u6 (4 * j) (((Sh.spell L).take (4 * j)).map bv) (by rfl) HOA.out ⟨wr.heap.size, 0, none⟩ 4 4 [.int .u8 ((x : Int) / 16777216), .int .u8 ((x : Int) / 65536 % 256), .int .u8 ((x : Int) / 256 % 256), .int .u8 ((x : Int) % 256)] (by rfl) (by rfl) HNW.out HON.out (by decide) h63 hby HSA.out _ (by rfl) ?_; intro v4 c4 w4 hown hg _ _))
          have hx7 : ARow w4 w1.heap.size 94 L := (hg.block w1.heap.size (by show _ < (wr.alloc _).heap.size; rw [World.size_alloc]; omega) HNE.out).trans ((HX6.out.alloc (.cells #[.int .u8 ((x : Int) / 16777216), .int .u8 ((x : Int) / 65536 % 256), .int .u8 ((x : Int) / 256 % 256), .int .u8 ((x : Int) % 256)] 5)).draw 1)
          have hb7 : Below w.heap.size w w4 := (HB6.out.alloc HB6.out.size (.cells #[.int .u8 ((x : Int) / 16777216), .int .u8 ((x : Int) / 65536 % 256), .int .u8 ((x : Int) / 256 % 256), .int .u8 ((x : Int) % 256)] 5)).drew.grown hg (by show _ ≤ (wr.alloc _).heap.size; rw [World.size_alloc]; have := HB6.out.size; omega) (fun k hk => by have := (HOW.out.lt k hk).1; omega)
          have ho7 : w4.ownsRow (w1.heap.size + 1) 5 1 (.slice (some ⟨v4, 0, none⟩) (4 * j + 4) c4) (4 * (j + 1)) (((Sh.spell L).take (4 * (j + 1))).map bv) := by
            rw [HST.out, List.map_append, be4_bv x hlx, show 4 * (j + 1) = 4 * j + 4 by omega]
            exact hown
          have HX7 := Lib.hid hx7
          have HB7 := Lib.hid hb7
          have HO7 := Lib.hid ho7
          clear hx7 hb7 ho7 hown hg A0 A1 A2 T1 T2 T3 U0 U1 U2 U3 hS cl
          go_wp2
          go_roundw
          case rel => exact ⟨j + 1, by go_num, hlt, HO7.out, HX7.out, HB7.out⟩
          case measure => simp [intOf]; omega
        · obtain rfl : j = 8 := by omega
          have hsl : (Sh.spell L).length = 32 := by rw [Sh.spell_lenL, hLn]
          rw [List.take_of_length_le (by omega)] at hown
          obtain ⟨D, hD⟩ : ∃ D, Sh.spell L = D := ⟨_, rfl⟩
          rw [hD] at hown hsl
          have HF := Lib.hid (HSP.out.trans hD)
          clear hD
          rcases hown.2 with ⟨_, h8⟩ | ⟨g2, cap2, cur2, rfl, hg2, _, _, _, _, _⟩
          · omega
          have hcl := hown.cells rfl
          have hcell2 : ∀ i, i < D.length → wr.cell? ⟨g2, 0 + i, none⟩ = some (.int .u8 ((D.map fun y => (y.toNat : Int)).getD i 0)) := by
            intro i hi
            have := hcl i (bv D[i]) (by simp [hi])
            have ha : (⟨g2, 0, none⟩ : Addr).add i = ⟨g2, 0 + i, none⟩ := by unfold Addr.add; split <;> simp_all
            rw [ha] at this
            rw [this]
            simp [bv, List.getD, hi]
          have hconv2 := run_convert_bytes_arg (P := Tryz.prog) wr 83 5 Tryz.underlying83 Tryz.underlying5 g2 0 _ cap2 _ (by simp) hcell2 9 Tryz.underlying9
          rw [strOfNums_bytes, hsl] at hconv2
          clear hcell2 hcl hown hx
          go_wp2
          go_ret
          exact ⟨by rw [HF.out]; rfl, hbel⟩
end Go.Proofs.YtflmfbcjmjlkbaaGreatDoor
end
section
/- The document's Bytes of batches. -/
set_option maxRecDepth 100000
namespace Go.Proofs.YtflmfbcjmjlkbaaGreatDoor
open Go.RowKit
attribute [local go_sem] ByteArray.mk_append_mk
theorem rrow_eq {v : Value} {ls : List (List UInt8)} {r : List UInt8} (h : Dg.row ls = r) (w : World) (hv : TxAt w v ls) (hl : ls.length ≤ 4294967296) (ht : (Dg.texts ls).length ≤ 4294967296) :
    Calls Tryz.prog 47 #[v] w fun e w' => e = .returned (tx r) ∧ Below w.heap.size w w' := by subst h; exact rrow_any v ls w hv hl ht
theorem rbnum_eq {n : Int} {l : List UInt8} (h0 : 0 ≤ n) (h1 : n ≤ 9223372036854775807) (h : Dg.num n.toNat = l) (w : World) :
    Calls Tryz.prog 21 #[.int .u64 n] w fun e w' => e = .returned (tx l) ∧ Below w.heap.size w w' := by
  obtain ⟨m, rfl⟩ := Int.eq_ofNat_of_zero_le h0
  subst h
  exact rnum_any m (by omega) w
theorem rsum_eqB {s r : List UInt8} (h : Sh.sum s = r) (hs : s.length ≤ 140737488351232) (w : World) :
    Calls Tryz.prog 30 #[tx s] w fun e w' => e = .returned (tx r) ∧ Below w.heap.size w w' := by subst h; exact rsum s hs w

set_option maxHeartbeats 2000000 in
theorem rbbytes (o q : Int) (v : Value) (l : List (List UInt8)) (w : World) (hv : TxAt w v l) (hl : l.length ≤ 140737488351232) :
    Calls Tryz.prog 46 #[batV o q v] w fun e w' => e = .returned (.tuple #[tx (Bt.bytesR (o, q, l)).1, .int .i64 (Bt.bytesR (o, q, l)).2]) ∧ Below w.heap.size w w' := by
  have hg : Below w.heap.size w (w.alloc (.cells #[.int .i64 o, .int .i64 q, v] 73)) := (Below.refl _ _).alloc (Nat.le_refl _) _
  have hmay := rbmay o q v l _ (hv.below hg)
  have hbx := BBox.new w o q v
  have HBX := Lib.hid hbx
  have HG := Lib.hid hg
  have HV := Lib.hid hv
  obtain ⟨av, cv, rfl⟩ := hv.len
  cases hm : Bt.may (o, q, l) with
  | false =>
    rw [Bt.bytesR_no hm]
    rw [hm] at hmay
    have HM := Lib.hid hmay
    clear hmay hm hg hv hbx
    go_enter Tryz.func46, Tryz.ntmps46
    go_wp2_with fail
    refine HM.out.mono ?_
    rintro e w1 ⟨rfl, hb⟩
    have hb2 := grow_trans HG.out (hb.mono (by simp))
    go_wp2
    go_ret2
    exact ⟨rfl, hb2⟩
  | true =>
    rw [Bt.bytesR_ok hm]
    rw [hm] at hmay
    have hmm := (Bt.may_iff _).1 hm
    simp only [] at hmm
    obtain ⟨m1, m2, m3, m4, m5, m6, m7⟩ := hmm
    have ht := Bt.texts_48 l m7
    obtain ⟨n3, hn3⟩ : ∃ n3, Dg.row l = n3 := ⟨_, rfl⟩
    have l1 : (Dg.num o.toNat).length ≤ 9 := Dg.num_len _
    have l2 : (Dg.num q.toNat).length ≤ 9 := Dg.num_len _
    have l3 : n3.length ≤ 300 := by rw [← hn3, Dg.row, List.length_append]; have := Dg.num_len l.length; omega
    have HE := Lib.hid (show Bt.bytes (o, q, l) = Dg.num o.toNat ++ (Dg.num q.toNat ++ n3) by rw [← hn3, ← List.append_assoc]; rfl)
    have b1 : ¬ ((Dg.num o.toNat).length + (Dg.num q.toNat).length > 9223372036854775807) := by omega
    have b2 : ¬ ((Dg.num o.toNat ++ Dg.num q.toNat).length + n3.length > 9223372036854775807) := by rw [List.length_append]; omega
    have e1 := fun W => cat_run (Dg.num o.toNat) (Dg.num q.toNat) b1 W
    have e2 := fun W => cat_run (Dg.num o.toNat ++ Dg.num q.toNat) n3 b2 W
    rw [List.append_assoc] at e2
    clear b1 b2
    clear l1 l2 l3
    have N3 := Lib.hid hn3
    have HM := Lib.hid hmay
    have hT := Lib.hid (show (Dg.texts l).length ≤ 4294967296 by omega)
    have wo : IntKind.u64.wrap o = o := IntWalk.u64_in _ ⟨by omega, by omega⟩
    have wq : IntKind.u64.wrap q = q := IntWalk.u64_in _ ⟨by omega, by omega⟩
    clear hmay hm hg hv hbx hn3 m7 ht
    go_enter Tryz.func46, Tryz.ntmps46
    go_wp2_with fail
    refine HM.out.mono ?_
    rintro e w1 ⟨rfl, hb⟩
    have hb2 := grow_trans HG.out (hb.mono (by simp))
    have bx1 := HBX.out.kept (hb.mono (by simp))
    obtain ⟨c0, c1, c2, _⟩ := bx1.facts
    have BX1 := Lib.hid bx1
    clear bx1 hb
    have hk := Lib.hid (show ∀ a b : World, (fun w' : World => w'.cell? ⟨w.heap.size, 0, none⟩ = some (.int .i64 o) ∧ w'.cell? ⟨w.heap.size, 1, none⟩ = some (.int .i64 q) ∧ w'.cell? ⟨w.heap.size, 2, none⟩ = some (.slice av l.length cv) ∧ Below w.heap.size w w') a → Below a.heap.size a b → (fun w' : World => w'.cell? ⟨w.heap.size, 0, none⟩ = some (.int .i64 o) ∧ w'.cell? ⟨w.heap.size, 1, none⟩ = some (.int .i64 q) ∧ w'.cell? ⟨w.heap.size, 2, none⟩ = some (.slice av l.length cv) ∧ Below w.heap.size w w') b from fun a b ⟨k0, k1, k2, kb⟩ h => ⟨below_cell h k0, below_cell h k1, below_cell h k2, grow_trans kb h⟩)
    have hS : (fun w' : World => w'.cell? ⟨w.heap.size, 0, none⟩ = some (.int .i64 o) ∧ w'.cell? ⟨w.heap.size, 1, none⟩ = some (.int .i64 q) ∧ w'.cell? ⟨w.heap.size, 2, none⟩ = some (.slice av l.length cv) ∧ Below w.heap.size w w') w1 := ⟨c0, c1, c2, hb2⟩
    have hf := Lib.hid (show ∀ n : Int, n = o ∨ n = q → ∀ W, (fun w' : World => w'.cell? ⟨w.heap.size, 0, none⟩ = some (.int .i64 o) ∧ w'.cell? ⟨w.heap.size, 1, none⟩ = some (.int .i64 q) ∧ w'.cell? ⟨w.heap.size, 2, none⟩ = some (.slice av l.length cv) ∧ Below w.heap.size w w') W → Calls Tryz.prog 21 #[.int .u64 n] W fun e w' => e = .returned (tx (Dg.num n.toNat)) ∧ (fun w' : World => w'.cell? ⟨w.heap.size, 0, none⟩ = some (.int .i64 o) ∧ w'.cell? ⟨w.heap.size, 1, none⟩ = some (.int .i64 q) ∧ w'.cell? ⟨w.heap.size, 2, none⟩ = some (.slice av l.length cv) ∧ Below w.heap.size w w') w' from fun n hn W h => keepB (fun w' : World => w'.cell? ⟨w.heap.size, 0, none⟩ = some (.int .i64 o) ∧ w'.cell? ⟨w.heap.size, 1, none⟩ = some (.int .i64 q) ∧ w'.cell? ⟨w.heap.size, 2, none⟩ = some (.slice av l.length cv) ∧ Below w.heap.size w w') hk.out (rbnum_eq (by omega) (by omega) rfl W) h)
    have hr := Lib.hid (fun W (h : (fun w' : World => w'.cell? ⟨w.heap.size, 0, none⟩ = some (.int .i64 o) ∧ w'.cell? ⟨w.heap.size, 1, none⟩ = some (.int .i64 q) ∧ w'.cell? ⟨w.heap.size, 2, none⟩ = some (.slice av l.length cv) ∧ Below w.heap.size w w') W) => keepB (fun w' : World => w'.cell? ⟨w.heap.size, 0, none⟩ = some (.int .i64 o) ∧ w'.cell? ⟨w.heap.size, 1, none⟩ = some (.int .i64 q) ∧ w'.cell? ⟨w.heap.size, 2, none⟩ = some (.slice av l.length cv) ∧ Below w.heap.size w w') hk.out (rrow_eq N3.out W (HV.out.below h.2.2.2) (by omega) hT.out) h)
    clear m1 m2 m3 m4 m5 m6 N3 HV hT BX1 hb2 HBX HG HM hl
    go_wp2_with fail
    go_region_held3 (fun w' : World => w'.cell? ⟨w.heap.size, 0, none⟩ = some (.int .i64 o) ∧ w'.cell? ⟨w.heap.size, 1, none⟩ = some (.int .i64 q) ∧ w'.cell? ⟨w.heap.size, 2, none⟩ = some (.slice av l.length cv) ∧ Below w.heap.size w w')
      (first | assumption | exact hk.out _ _ hS (Below.drew (Below.refl _ _)) | exact hk.out _ _ (by assumption) ((Below.refl _ _).alloc (Nat.le_refl _) _))
      (first
        | (go_at_call 21; refine (hf.out _ (by first | exact .inl rfl | exact .inr rfl) _ (by assumption)).mono ?_; rintro e w1 ⟨rfl, kS⟩)
        | (go_at_call 47; refine (hr.out _ (by assumption)).mono ?_; rintro e w1 ⟨rfl, kS⟩))
    all_goals (go_wp2_with fail; go_ret2; exact ⟨by rw [HE.out]; rfl, (show (fun w' : World => w'.cell? ⟨w.heap.size, 0, none⟩ = some (.int .i64 o) ∧ w'.cell? ⟨w.heap.size, 1, none⟩ = some (.int .i64 q) ∧ w'.cell? ⟨w.heap.size, 2, none⟩ = some (.slice av l.length cv) ∧ Below w.heap.size w w') _ by assumption).2.2.2⟩)
theorem rbbytes_eq {b : Bt.Bat} {v : Value} {R : List UInt8 × Nat} (h : Bt.bytesR b = R) (w : World) (hv : TxAt w v b.2.2) (hl : b.2.2.length ≤ 140737488351232) :
    Calls Tryz.prog 46 #[batV b.1 b.2.1 v] w fun e w' => e = .returned (.tuple #[tx R.1, .int .i64 R.2]) ∧ Below w.heap.size w w' := by subst h; exact rbbytes b.1 b.2.1 v b.2.2 w hv hl
end Go.Proofs.YtflmfbcjmjlkbaaGreatDoor
end
section
/- The document's Bytes and Digest of vertices; the program's Digest. -/
namespace Vt
noncomputable def digestR (v : Vtx) (n : Int) : List UInt8 × Nat := if may v n = true then (Sh.sum (118 :: bytes v), 0) else ([], 1)
theorem digestR_ok {v : Vtx} {n : Int} (h : may v n = true) : digestR v n = (Sh.sum (118 :: bytes v), 0) := by rw [digestR, if_pos h]
theorem digestR_no {v : Vtx} {n : Int} (h : may v n = false) : digestR v n = ([], 1) := by rw [digestR, if_neg (by simp [h])]
end Vt
namespace Go.Proofs.YtflmfbcjmjlkbaaGreatDoor
open Go.RowKit
set_option maxRecDepth 100000
attribute [local go_sem] ByteArray.mk_append_mk

theorem rvmay_eq {v : Vt.Vtx} {n : Int} {z : Bool} (h : Vt.may v n = z) (bv pv : Value) (w : World) (hb : BtsAt w bv v.2.2.1) (hp : TxAt w pv v.2.2.2.1) (lb : v.2.2.1.length ≤ 140737488351232) (lp : v.2.2.2.1.length ≤ 140737488351232) (n1 : -9223372036854775808 ≤ n) (n2 : n ≤ 9223372036854775807) :
    Calls Tryz.prog 42 #[vtxV v.1 v.2.1 bv pv v.2.2.2.2.1 v.2.2.2.2.2, .int .i64 n] w fun e w' => e = .returned (.bool z) ∧ Below w.heap.size w w' := by subst h; exact rvmay v bv pv n w hb hp lb lp n1 n2

theorem rvbytes_no (v : Vt.Vtx) (bv pv : Value) (n : Int) (w : World) (hb : BtsAt w bv v.2.2.1) (hp : TxAt w pv v.2.2.2.1) (mv : Vt.Mod v) (n1 : -9223372036854775808 ≤ n) (n2 : n ≤ 9223372036854775807) (hm : Vt.may v n = false) :
    Calls Tryz.prog 19 #[vtxV v.1 v.2.1 bv pv v.2.2.2.2.1 v.2.2.2.2.2, .int .i64 n] w fun e w' => e = .returned (.tuple #[tx [], .int .i64 1]) ∧ Below w.heap.size w w' := by
  have HM := Lib.hid hm
  have MV := Lib.hid mv
  obtain ⟨a, r, bs, ps, x, y⟩ := v
  simp only [] at hb hp
  have HG := Lib.hid (show Below w.heap.size w (w.alloc (.cells #[.int .i64 a, .int .i64 r, bv, pv, .int .i64 x, .int .i64 y] 27)) from (Below.refl _ _).alloc (Nat.le_refl _) _)
  have HB := Lib.hid hb
  have HP := Lib.hid hp
  obtain ⟨ab, cb, rfl⟩ := hb.len
  obtain ⟨ap, cp, rfl⟩ := hp.len
  clear hm hb hp mv
  go_enter Tryz.func19, Tryz.ntmps19
  go_wp2_with fail
  refine (rvmay_eq (v := (a, r, bs, ps, x, y)) HM.out _ _ _ (HB.out.below HG.out) (HP.out.below HG.out) MV.out.b MV.out.p n1 n2).mono ?_
  rintro e w1 ⟨rfl, g1⟩
  have G1 := Lib.hid (HG.out.trans (g1.mono (by simp)))
  clear g1
  go_wp2
  go_ret2
  exact ⟨rfl, G1.out⟩

set_option maxHeartbeats 8000000 in
theorem rvbytes_ok (v : Vt.Vtx) (bv pv : Value) (n : Int) (w : World) (hb : BtsAt w bv v.2.2.1) (hp : TxAt w pv v.2.2.2.1) (n1 : -9223372036854775808 ≤ n) (n2 : n ≤ 9223372036854775807) (hm : Vt.may v n = true) :
    Calls Tryz.prog 19 #[vtxV v.1 v.2.1 bv pv v.2.2.2.2.1 v.2.2.2.2.2, .int .i64 n] w fun e w' => e = .returned (.tuple #[tx (Vt.bytes v), .int .i64 0]) ∧ Below w.heap.size w w' := by
  obtain ⟨i0, hi, hz0, hz1, hz2⟩ := info_parts info_txs
  have hf := Vt.fits hm
  have hlen := Vt.bytes_len hm
  have HM := Lib.hid hm
  obtain ⟨f1, f2, a1, a2, r1, r2, b1, b2, p1, p2, x1, x2, y1, y2⟩ := hf
  obtain ⟨a, r, bs, ps, x, y⟩ := v
  simp only [] at hb hp a1 a2 r1 r2 b1 b2 p1 p2 x1 x2 y1 y2
  obtain ⟨na, hna⟩ : ∃ z, Dg.num a.toNat = z := ⟨_, rfl⟩
  obtain ⟨nr, hnr⟩ : ∃ z, Dg.num r.toNat = z := ⟨_, rfl⟩
  obtain ⟨nx, hnx⟩ : ∃ z, Dg.num x.toNat = z := ⟨_, rfl⟩
  obtain ⟨ny, hny⟩ : ∃ z, Dg.num y.toNat = z := ⟨_, rfl⟩
  obtain ⟨rb, hrb⟩ : ∃ z, Dg.row (bs.map Bt.bytes) = z := ⟨_, rfl⟩
  obtain ⟨rp, hrp⟩ : ∃ z, Dg.row ps = z := ⟨_, rfl⟩
  obtain ⟨s1, hs1⟩ : ∃ z, na ++ nr = z := ⟨_, rfl⟩
  obtain ⟨s2, hs2⟩ : ∃ z, s1 ++ rb = z := ⟨_, rfl⟩
  obtain ⟨s3, hs3⟩ : ∃ z, s2 ++ rp = z := ⟨_, rfl⟩
  obtain ⟨s4, hs4⟩ : ∃ z, s3 ++ nx = z := ⟨_, rfl⟩
  obtain ⟨s5, hs5⟩ : ∃ z, s4 ++ ny = z := ⟨_, rfl⟩
  have hall : Vt.bytes (a, r, bs, ps, x, y) = s5 := by
    simp only [Vt.bytes, hna, hnr, hnx, hny, hrb, hrp, ← hs5, ← hs4, ← hs3, ← hs2, ← hs1, List.append_assoc]
  rw [hall] at hlen ⊢
  have l5 : s5.length = s4.length + ny.length := by rw [← hs5, List.length_append]
  have l4 : s4.length = s3.length + nx.length := by rw [← hs4, List.length_append]
  have l3 : s3.length = s2.length + rp.length := by rw [← hs3, List.length_append]
  have l2 : s2.length = s1.length + rb.length := by rw [← hs2, List.length_append]
  have e1 := fun W => cat_is na nr s1 hs1 (by omega) W
  have e2 := fun W => cat_is s1 rb s2 hs2 (by omega) W
  have e3 := fun W => cat_is s2 rp s3 hs3 (by omega) W
  have e4 := fun W => cat_is s3 nx s4 hs4 (by omega) W
  have e5 := fun W => cat_is s4 ny s5 hs5 (by omega) W
  have tb : (Dg.texts (bs.map Bt.bytes)).length ≤ 4294967296 := by
    have : rb.length ≤ 4600 := by omega
    rw [← hrb, Dg.row, List.length_append] at this; omega
  have tp : (Dg.texts ps).length ≤ 4294967296 := by
    have : rp.length ≤ 4600 := by omega
    rw [← hrp, Dg.row, List.length_append] at this; omega
  have lbm : (bs.map Bt.bytes).length ≤ 4294967296 := by rw [List.length_map]; omega
  have lpm : ps.length ≤ 4294967296 := by omega
  have hnum : ∀ (z : Int) (l : List UInt8), 0 ≤ z → z ≤ 9223372036854775807 → Dg.num z.toNat = l → ∀ W, Calls Tryz.prog 21 #[.int .u64 z] W fun e w' => e = .returned (tx l) ∧ Below W.heap.size W w' := fun z l h0 h1 h W => rbnum_eq h0 h1 h W
  have NA := Lib.hid (hnum a na (by omega) (by omega) hna)
  have NR := Lib.hid (hnum r nr (by omega) (by omega) hnr)
  have NX := Lib.hid (hnum x nx (by omega) (by omega) hnx)
  have NY := Lib.hid (hnum y ny (by omega) (by omega) hny)
  have wa : IntKind.u64.wrap a = a := IntWalk.u64_in _ ⟨by omega, by omega⟩
  have wrr : IntKind.u64.wrap r = r := IntWalk.u64_in _ ⟨by omega, by omega⟩
  have wx : IntKind.u64.wrap x = x := IntWalk.u64_in _ ⟨by omega, by omega⟩
  have wy : IntKind.u64.wrap y = y := IntWalk.u64_in _ ⟨by omega, by omega⟩
  have VB := Lib.hid (VBox.new w a r bv pv x y)
  have HG := Lib.hid (show Below w.heap.size w (w.alloc (.cells #[.int .i64 a, .int .i64 r, bv, pv, .int .i64 x, .int .i64 y] 27)) from (Below.refl _ _).alloc (Nat.le_refl _) _)
  have HB := Lib.hid hb
  have HP := Lib.hid hp
  obtain ⟨ab, cb, rfl⟩ := hb.len
  obtain ⟨ap, cp, rfl⟩ := hp.len
  have B2 := Lib.hid b2
  have RB := Lib.hid (fun (u : Value) (W : World) (h : TxAt W u (bs.map Bt.bytes)) => rrow_eq hrb W h lbm tb)
  have RP := Lib.hid (fun (W : World) (h : TxAt W (.slice ap ps.length cp) ps) => rrow_eq hrp W h lpm tp)
  have LB2 := Lib.hid (show bs.length ≤ 140737488351232 by omega)
  have LP2 := Lib.hid (show ps.length ≤ 140737488351232 by omega)
  have hSM : ∀ j (hj : j < bs.length), ∃ u, (∃ b off cap, Value.slice ab bs.length cb = .slice (some ⟨b, off, none⟩) bs.length cap ∧ w.cell? ⟨b, off + j * 3, none⟩ = some (.int .i64 bs[j].1) ∧ w.cell? ⟨b, off + j * 3 + 1, none⟩ = some (.int .i64 bs[j].2.1) ∧ w.cell? ⟨b, off + j * 3 + 2, none⟩ = some u) ∧ TxAt w u bs[j].2.2 := by
    intro j hj
    rcases HB.out.cells with ⟨rfl, _⟩ | ⟨_, b, off, cap, e, hc⟩
    · simp at hj
    · obtain ⟨u, d0, d1, d2, hu⟩ := hc j hj
      exact ⟨u, ⟨b, off, cap, e, d0, d1, d2⟩, hu⟩
  have HSM := Lib.hid hSM
  obtain ⟨xs, hxs⟩ : ∃ xs : Nat → List Value, ∀ k, xs k = ((bs.take k).map Bt.bytes).map tx := ⟨_, fun _ => rfl⟩
  have hx0 : xs 0 = [] := by rw [hxs]; rfl
  have XS := Lib.hid hxs
  have X0 := Lib.hid hx0
  clear hm hb hp b2 hnum hna hnr hnx hny hrb hrp hs1 hs2 hs3 hs4 hs5 hall l5 l4 l3 l2 tb tp lbm lpm a1 a2 r1 r2 x1 x2 y1 y2 p1 p2 hlen f1 f2 hSM hxs hx0
  go_enter Tryz.func19, Tryz.ntmps19
  go_wp2_with fail
  refine (rvmay_eq (v := (a, r, bs, ps, x, y)) HM.out _ _ _ (HB.out.below HG.out) (HP.out.below HG.out) LB2.out LP2.out n1 n2).mono ?_
  rintro e w1 ⟨rfl, g1⟩
  have v1 := Lib.hid (VB.out.kept g1)
  have G1 := Lib.hid (HG.out.trans (g1.mono (by simp)))
  have WZ := Lib.hid v1.out.lt
  clear g1
  go_wp2_with fail
  go_loopw [7, 8] (fun v i wr => ∃ k : Nat, i = .int .i64 k ∧ k ≤ bs.length ∧ Below w.heap.size w wr ∧ VBox wr w.heap.size a r (.slice ab bs.length cb) (.slice ap ps.length cp) x y ∧ wr.ownsRow (w.heap.size + 1) 9 1 v k (xs k)) (fun _ i _ => bs.length - (intOf i).toNat)
  case atStart => exact ⟨0, rfl, by omega, G1.out, v1.out, by rw [X0.out]; exact ⟨rfl, .inl ⟨rfl, rfl⟩⟩⟩
  case round =>
    obtain ⟨k, rfl, hk, hbel, hvb, hown⟩ := hrel
    have GB := Lib.hid hbel
    have HO := Lib.hid hown
    have VV := Lib.hid hvb
    obtain ⟨c0, c1, c2, c3, c4, c5⟩ := hvb.cells
    clear hbel hown hvb
    by_cases hlt : k < bs.length
    · obtain ⟨u, ⟨b, off, cap, hbe, d0, d1, d2⟩, hu⟩ := HSM.out k hlt
      have e0 := below_cell GB.out d0
      have e1' := below_cell GB.out d1
      have e2' := below_cell GB.out d2
      have hmk := B2.out _ (List.getElem_mem hlt)
      have htk : xs k ++ [tx (Bt.bytes bs[k])] = xs (k + 1) := by
        rw [XS.out, XS.out, List.take_succ_eq_append_getElem hlt, List.map_append, List.map_append]; rfl
      have HU := Lib.hid (hu.below GB.out)
      have TK := Lib.hid htk
      obtain ⟨au, cu, rfl⟩ := hu.len
      injection hbe with hb1 _ hb2
      subst hb1
      subst hb2
      clear d0 d1 d2 hu htk
      generalize bs[k] = z at *
      obtain ⟨o, q, m⟩ := z
      simp only [] at e0 e1' e2' HU
      have hcl := rbbytes_eq (b := (o, q, m)) (v := .slice au m.length cu) (Bt.bytesR_ok hmk) wr HU.out (may_small hmk)
      have HL := Lib.hid hcl
      clear hcl hmk
      generalize Bt.bytes (o, q, m) = s at *
      go_wp2_with fail
      refine HL.out.mono ?_
      rintro e w2 ⟨rfl, g2⟩
      have V2 := Lib.hid (VV.out.kept g2)
      have G2 := Lib.hid (grow_trans GB.out g2)
      have HO1 := Lib.hid (own_below HO.out g2 (fun g hg => (HO.out.lt g hg).2))
      have Z2 := Lib.hid V2.out.lt
      clear g2 HO
      go_wp2_with (at_builtin; refine wpList_append_own _ rfl _ _ 23 rfl (w.heap.size + 1) 9 i0 (.string ⟨#[]⟩) 1 16 Tryz.underlying23 hi hz0 hz1 hz2 rfl (by decide) _ _ _ rfl (HO1.out.alloc _) ⟨w2.heap.size, 0, none⟩ 1 1 [tx s] rfl rfl ?c1 ?c2 ?c3 ?c4 ?c5 ?_)
      case c1 => exact new_cell _ _ rfl _ _
      case c2 => intro u hu; simp at hu; subst hu; rfl
      case c3 => unfold maxLen; omega
      case c4 => omega
      case c5 => have := Z2.out; simp; omega
      intro v' w3 hown3 hgrow _
      rw [TK.out] at hown3
      have HO3 := Lib.hid hown3
      have G3 := Lib.hid ((G2.out.alloc G2.out.size _).grown hgrow (by have := G2.out.size; simp; omega) (fun k hk => Nat.le_of_succ_le (HO1.out.lt k hk).1))
      have V3 := Lib.hid (show VBox w3 w.heap.size a r (.slice (some ⟨b, off, none⟩) bs.length cb) (.slice ap ps.length cp) x y from (hgrow.block _ (by have := Z2.out; simp; omega) (fun e => by have := (HO1.out.lt _ e.symm).1; omega)).trans (V2.out.alloc _))
      clear hown3 hgrow HO1
      go_wp2
      go_roundw
      case rel => exact ⟨k + 1, by go_num, by omega, G3.out, V3.out, HO3.out⟩
      case measure => simp [intOf]; omega
    · obtain rfl : k = bs.length := by omega
      have hT := HO.out
      rw [XS.out, List.take_length] at hT
      have HU := Lib.hid (TxAt.own hT)
      obtain ⟨au, cu, hue⟩ := HU.out.len
      rw [List.length_map] at hue
      subst hue
      clear hT HO hlt
      go_wp2_with fail
      have hS : (fun w' : World => w'.cell? ⟨w.heap.size, 0, none⟩ = some (.int .i64 a) ∧ w'.cell? ⟨w.heap.size, 1, none⟩ = some (.int .i64 r) ∧ w'.cell? ⟨w.heap.size, 3, none⟩ = some (.slice ap ps.length cp) ∧ Below wr.heap.size wr w') wr := ⟨c0, c1, c3, Below.refl _ _⟩
      have hk := Lib.hid (show ∀ a' b' : World, (fun w' : World => w'.cell? ⟨w.heap.size, 0, none⟩ = some (.int .i64 a) ∧ w'.cell? ⟨w.heap.size, 1, none⟩ = some (.int .i64 r) ∧ w'.cell? ⟨w.heap.size, 3, none⟩ = some (.slice ap ps.length cp) ∧ Below wr.heap.size wr w') a' → Below a'.heap.size a' b' → (fun w' : World => w'.cell? ⟨w.heap.size, 0, none⟩ = some (.int .i64 a) ∧ w'.cell? ⟨w.heap.size, 1, none⟩ = some (.int .i64 r) ∧ w'.cell? ⟨w.heap.size, 3, none⟩ = some (.slice ap ps.length cp) ∧ Below wr.heap.size wr w') b' from fun a' b' ⟨k0, k1, k3, kb⟩ h => ⟨below_cell h k0, below_cell h k1, below_cell h k3, grow_trans kb h⟩)
      have hfN := Lib.hid (show ∀ (z : Int) (R : List UInt8), (z = a ∧ R = na) ∨ (z = r ∧ R = nr) → ∀ W, (fun w' : World => w'.cell? ⟨w.heap.size, 0, none⟩ = some (.int .i64 a) ∧ w'.cell? ⟨w.heap.size, 1, none⟩ = some (.int .i64 r) ∧ w'.cell? ⟨w.heap.size, 3, none⟩ = some (.slice ap ps.length cp) ∧ Below wr.heap.size wr w') W → Calls Tryz.prog 21 #[.int .u64 z] W fun e w' => e = .returned (tx R) ∧ (fun w' : World => w'.cell? ⟨w.heap.size, 0, none⟩ = some (.int .i64 a) ∧ w'.cell? ⟨w.heap.size, 1, none⟩ = some (.int .i64 r) ∧ w'.cell? ⟨w.heap.size, 3, none⟩ = some (.slice ap ps.length cp) ∧ Below wr.heap.size wr w') w' from by
        rintro z R (⟨j1, j2⟩ | ⟨j1, j2⟩) W h <;> rw [j1, j2]
        · exact keepB (fun w' : World => w'.cell? ⟨w.heap.size, 0, none⟩ = some (.int .i64 a) ∧ w'.cell? ⟨w.heap.size, 1, none⟩ = some (.int .i64 r) ∧ w'.cell? ⟨w.heap.size, 3, none⟩ = some (.slice ap ps.length cp) ∧ Below wr.heap.size wr w') hk.out (NA.out W) h
        · exact keepB (fun w' : World => w'.cell? ⟨w.heap.size, 0, none⟩ = some (.int .i64 a) ∧ w'.cell? ⟨w.heap.size, 1, none⟩ = some (.int .i64 r) ∧ w'.cell? ⟨w.heap.size, 3, none⟩ = some (.slice ap ps.length cp) ∧ Below wr.heap.size wr w') hk.out (NR.out W) h)
      have hfR := Lib.hid (show ∀ (u : Value) (R : List UInt8), (u = .slice au bs.length cu ∧ R = rb) ∨ (u = .slice ap ps.length cp ∧ R = rp) → ∀ W, (fun w' : World => w'.cell? ⟨w.heap.size, 0, none⟩ = some (.int .i64 a) ∧ w'.cell? ⟨w.heap.size, 1, none⟩ = some (.int .i64 r) ∧ w'.cell? ⟨w.heap.size, 3, none⟩ = some (.slice ap ps.length cp) ∧ Below wr.heap.size wr w') W → Calls Tryz.prog 47 #[u] W fun e w' => e = .returned (tx R) ∧ (fun w' : World => w'.cell? ⟨w.heap.size, 0, none⟩ = some (.int .i64 a) ∧ w'.cell? ⟨w.heap.size, 1, none⟩ = some (.int .i64 r) ∧ w'.cell? ⟨w.heap.size, 3, none⟩ = some (.slice ap ps.length cp) ∧ Below wr.heap.size wr w') w' from by
        rintro u R (⟨rfl, rfl⟩ | ⟨rfl, rfl⟩) W h
        · exact keepB (fun w' : World => w'.cell? ⟨w.heap.size, 0, none⟩ = some (.int .i64 a) ∧ w'.cell? ⟨w.heap.size, 1, none⟩ = some (.int .i64 r) ∧ w'.cell? ⟨w.heap.size, 3, none⟩ = some (.slice ap ps.length cp) ∧ Below wr.heap.size wr w') hk.out (RB.out _ W (HU.out.below h.2.2.2)) h
        · exact keepB (fun w' : World => w'.cell? ⟨w.heap.size, 0, none⟩ = some (.int .i64 a) ∧ w'.cell? ⟨w.heap.size, 1, none⟩ = some (.int .i64 r) ∧ w'.cell? ⟨w.heap.size, 3, none⟩ = some (.slice ap ps.length cp) ∧ Below wr.heap.size wr w') hk.out (RP.out W (HP.out.below (grow_trans GB.out h.2.2.2))) h)
      have hS2 := Lib.hid (show ∀ W, (fun w' : World => w'.cell? ⟨w.heap.size, 0, none⟩ = some (.int .i64 a) ∧ w'.cell? ⟨w.heap.size, 1, none⟩ = some (.int .i64 r) ∧ w'.cell? ⟨w.heap.size, 3, none⟩ = some (.slice ap ps.length cp) ∧ Below wr.heap.size wr w') W → (fun w' : World => w'.cell? ⟨w.heap.size, 4, none⟩ = some (.int .i64 x) ∧ w'.cell? ⟨w.heap.size, 5, none⟩ = some (.int .i64 y) ∧ Below w.heap.size w w') W from fun W h => by
        obtain ⟨_, _, _, _, m4, m5⟩ := (VV.out.kept h.2.2.2).cells
        exact ⟨m4, m5, grow_trans GB.out h.2.2.2⟩)
      have hk2 := Lib.hid (show ∀ a' b' : World, (fun w' : World => w'.cell? ⟨w.heap.size, 4, none⟩ = some (.int .i64 x) ∧ w'.cell? ⟨w.heap.size, 5, none⟩ = some (.int .i64 y) ∧ Below w.heap.size w w') a' → Below a'.heap.size a' b' → (fun w' : World => w'.cell? ⟨w.heap.size, 4, none⟩ = some (.int .i64 x) ∧ w'.cell? ⟨w.heap.size, 5, none⟩ = some (.int .i64 y) ∧ Below w.heap.size w w') b' from fun a' b' ⟨k0, k1, kb⟩ h => ⟨below_cell h k0, below_cell h k1, grow_trans kb h⟩)
      have hfM := Lib.hid (show ∀ (z : Int) (R : List UInt8), (z = x ∧ R = nx) ∨ (z = y ∧ R = ny) → ∀ W, (fun w' : World => w'.cell? ⟨w.heap.size, 4, none⟩ = some (.int .i64 x) ∧ w'.cell? ⟨w.heap.size, 5, none⟩ = some (.int .i64 y) ∧ Below w.heap.size w w') W → Calls Tryz.prog 21 #[.int .u64 z] W fun e w' => e = .returned (tx R) ∧ (fun w' : World => w'.cell? ⟨w.heap.size, 4, none⟩ = some (.int .i64 x) ∧ w'.cell? ⟨w.heap.size, 5, none⟩ = some (.int .i64 y) ∧ Below w.heap.size w w') w' from by
        rintro z R (⟨j1, j2⟩ | ⟨j1, j2⟩) W h <;> rw [j1, j2]
        · exact keepB (fun w' : World => w'.cell? ⟨w.heap.size, 4, none⟩ = some (.int .i64 x) ∧ w'.cell? ⟨w.heap.size, 5, none⟩ = some (.int .i64 y) ∧ Below w.heap.size w w') hk2.out (NX.out W) h
        · exact keepB (fun w' : World => w'.cell? ⟨w.heap.size, 4, none⟩ = some (.int .i64 x) ∧ w'.cell? ⟨w.heap.size, 5, none⟩ = some (.int .i64 y) ∧ Below w.heap.size w w') hk2.out (NY.out W) h)
      clear c0 c1 c2 c3 c4 c5 NX NY NA NR RB RP HM VB HG HB B2 HSM XS X0 v1 WZ
      go_region_held3 (fun w' : World => w'.cell? ⟨w.heap.size, 0, none⟩ = some (.int .i64 a) ∧ w'.cell? ⟨w.heap.size, 1, none⟩ = some (.int .i64 r) ∧ w'.cell? ⟨w.heap.size, 3, none⟩ = some (.slice ap ps.length cp) ∧ Below wr.heap.size wr w')
        (first | assumption | exact hk.out _ _ hS (Below.drew (Below.refl _ _)) | exact hk.out _ _ (by assumption) ((Below.refl _ _).alloc (Nat.le_refl _) _))
        (first
          | (go_at_call 21; refine (hfN.out _ _ (by first | exact .inl ⟨rfl, rfl⟩ | exact .inr ⟨rfl, rfl⟩) _ (by assumption)).mono ?_; rintro e w1 ⟨rfl, kS⟩)
          | (go_at_call 47; refine (hfR.out _ _ (by first | exact .inl ⟨rfl, rfl⟩ | exact .inr ⟨rfl, rfl⟩) _ (by assumption)).mono ?_; rintro e w1 ⟨rfl, kS⟩))
      all_goals (go_wp2_with fail)
      all_goals
        go_region_held3 (fun w' : World => w'.cell? ⟨w.heap.size, 4, none⟩ = some (.int .i64 x) ∧ w'.cell? ⟨w.heap.size, 5, none⟩ = some (.int .i64 y) ∧ Below w.heap.size w w')
          (first | assumption | exact hk2.out _ _ (hS2.out _ (by assumption)) (Below.drew (Below.refl _ _)) | exact hk2.out _ _ (by assumption) ((Below.refl _ _).alloc (Nat.le_refl _) _))
          ((go_at_call 21; refine (hfM.out _ _ (by first | exact .inl ⟨rfl, rfl⟩ | exact .inr ⟨rfl, rfl⟩) _ (by assumption)).mono ?_; rintro e w1 ⟨rfl, kS⟩))
      all_goals (go_wp2_with fail; go_ret2; exact ⟨rfl, (show (fun w' : World => w'.cell? ⟨w.heap.size, 4, none⟩ = some (.int .i64 x) ∧ w'.cell? ⟨w.heap.size, 5, none⟩ = some (.int .i64 y) ∧ Below w.heap.size w w') _ by assumption).2.2⟩)

theorem rvbytes_eq {v : Vt.Vtx} {n : Int} {R : List UInt8 × Nat} (h : Vt.bytesR v n = R) (bv pv : Value) (w : World) (hb : BtsAt w bv v.2.2.1) (hp : TxAt w pv v.2.2.2.1) (mv : Vt.Mod v) (n1 : -9223372036854775808 ≤ n) (n2 : n ≤ 9223372036854775807) :
    Calls Tryz.prog 19 #[vtxV v.1 v.2.1 bv pv v.2.2.2.2.1 v.2.2.2.2.2, .int .i64 n] w fun e w' => e = .returned (.tuple #[tx R.1, .int .i64 R.2]) ∧ Below w.heap.size w w' := by
  subst h
  cases hm : Vt.may v n with
  | true => rw [Vt.bytesR_ok hm]; exact rvbytes_ok v bv pv n w hb hp n1 n2 hm
  | false => rw [Vt.bytesR_no hm]; exact rvbytes_no v bv pv n w hb hp mv n1 n2 hm

theorem psum_eqV {s r : List UInt8} (h : Sh.sum s = r) (hs : s.length ≤ 140737488351232) (w : World) (hw : GW w) :
    Calls Tryz.prog 60 #[tx s] w fun e w' => e = .returned (tx r) ∧ Below w.heap.size w w' := by subst h; exact psum s hs w hw

set_option maxHeartbeats 2000000 in
theorem pvdigest (v : Vt.Vtx) (bv pv : Value) (n : Int) (w : World) (hb : BtsAt w bv v.2.2.1) (hp : TxAt w pv v.2.2.2.1) (mv : Vt.Mod v) (n1 : -9223372036854775808 ≤ n) (n2 : n ≤ 9223372036854775807) (hw : GW w) :
    Calls Tryz.prog 31 #[vtxV v.1 v.2.1 bv pv v.2.2.2.2.1 v.2.2.2.2.2, .int .i64 n] w fun e w' => e = .returned (.tuple #[tx (Vt.digestR v n).1, .int .i64 (Vt.digestR v n).2]) ∧ Below w.heap.size w w' := by
  have MV := Lib.hid mv
  have HW := Lib.hid hw
  cases hm : Vt.may v n with
  | false =>
    rw [Vt.digestR_no hm]
    have HR := Lib.hid (Vt.bytesR_no hm)
    obtain ⟨a, r, bs, ps, x, y⟩ := v
    simp only [] at hb hp
    have HG := Lib.hid (show Below w.heap.size w (w.alloc (.cells #[.int .i64 a, .int .i64 r, bv, pv, .int .i64 x, .int .i64 y] 27)) from (Below.refl _ _).alloc (Nat.le_refl _) _)
    have HB := Lib.hid hb
    have HP := Lib.hid hp
    obtain ⟨ab, cb, rfl⟩ := hb.len
    obtain ⟨ap, cp, rfl⟩ := hp.len
    clear hm hb hp mv
    go_enter Tryz.func31, Tryz.ntmps31
    go_wp2_with fail
    refine (pvbytes_eq (v := (a, r, bs, ps, x, y)) HR.out _ _ _ (HB.out.below HG.out) (HP.out.below HG.out) MV.out.b MV.out.s MV.out.p n1 n2).mono ?_
    rintro e w1 ⟨rfl, g1⟩
    have G1 := Lib.hid (HG.out.trans (g1.mono (by simp)))
    clear g1
    go_wp2
    go_ret2
    exact ⟨rfl, G1.out⟩
  | true =>
    rw [Vt.digestR_ok hm]
    have HR := Lib.hid (Vt.bytesR_ok hm)
    have hlen := Vt.bytes_len hm
    obtain ⟨a, r, bs, ps, x, y⟩ := v
    simp only [] at hb hp
    obtain ⟨s, hs⟩ : ∃ s, Vt.bytes (a, r, bs, ps, x, y) = s := ⟨_, rfl⟩
    rw [hs] at HR hlen ⊢
    obtain ⟨d, hd⟩ : ∃ d, Sh.sum (118 :: s) = d := ⟨_, rfl⟩
    rw [hd]
    have e1 := fun W => cat_run [118] s (by simp; omega) W
    have HS := Lib.hid (fun W hW => psum_eqV hd (by simp; omega) W hW)
    have HG := Lib.hid (show Below w.heap.size w (w.alloc (.cells #[.int .i64 a, .int .i64 r, bv, pv, .int .i64 x, .int .i64 y] 27)) from (Below.refl _ _).alloc (Nat.le_refl _) _)
    have HB := Lib.hid hb
    have HP := Lib.hid hp
    obtain ⟨ab, cb, rfl⟩ := hb.len
    obtain ⟨ap, cp, rfl⟩ := hp.len
    clear hm hb hp mv hs hd
    go_enter Tryz.func31, Tryz.ntmps31
    go_wp2_with fail
    refine (pvbytes_eq (v := (a, r, bs, ps, x, y)) HR.out _ _ _ (HB.out.below HG.out) (HP.out.below HG.out) MV.out.b MV.out.s MV.out.p n1 n2).mono ?_
    rintro e w1 ⟨rfl, g1⟩
    have G1 := Lib.hid (HG.out.trans (g1.mono (by simp)))
    clear g1
    go_wp2_with fail
    refine (HS.out _ (HW.out.below G1.out)).mono ?_
    rintro e w2 ⟨rfl, g2⟩
    have G2 := Lib.hid (grow_trans G1.out g2)
    clear g2
    go_wp2
    go_ret2
    exact ⟨rfl, G2.out⟩
set_option maxHeartbeats 2000000 in
theorem rvdigest (v : Vt.Vtx) (bv pv : Value) (n : Int) (w : World) (hb : BtsAt w bv v.2.2.1) (hp : TxAt w pv v.2.2.2.1) (mv : Vt.Mod v) (n1 : -9223372036854775808 ≤ n) (n2 : n ≤ 9223372036854775807) :
    Calls Tryz.prog 11 #[vtxV v.1 v.2.1 bv pv v.2.2.2.2.1 v.2.2.2.2.2, .int .i64 n] w fun e w' => e = .returned (.tuple #[tx (Vt.digestR v n).1, .int .i64 (Vt.digestR v n).2]) ∧ Below w.heap.size w w' := by
  have MV := Lib.hid mv
  cases hm : Vt.may v n with
  | false =>
    rw [Vt.digestR_no hm]
    have HR := Lib.hid (Vt.bytesR_no hm)
    obtain ⟨a, r, bs, ps, x, y⟩ := v
    simp only [] at hb hp
    have HG := Lib.hid (show Below w.heap.size w (w.alloc (.cells #[.int .i64 a, .int .i64 r, bv, pv, .int .i64 x, .int .i64 y] 27)) from (Below.refl _ _).alloc (Nat.le_refl _) _)
    have HB := Lib.hid hb
    have HP := Lib.hid hp
    obtain ⟨ab, cb, rfl⟩ := hb.len
    obtain ⟨ap, cp, rfl⟩ := hp.len
    clear hm hb hp mv
    go_enter Tryz.func11, Tryz.ntmps11
    go_wp2_with fail
    refine (rvbytes_eq (v := (a, r, bs, ps, x, y)) HR.out _ _ _ (HB.out.below HG.out) (HP.out.below HG.out) MV.out n1 n2).mono ?_
    rintro e w1 ⟨rfl, g1⟩
    have G1 := Lib.hid (HG.out.trans (g1.mono (by simp)))
    clear g1
    go_wp2
    go_ret2
    exact ⟨rfl, G1.out⟩
  | true =>
    rw [Vt.digestR_ok hm]
    have HR := Lib.hid (Vt.bytesR_ok hm)
    have hlen := Vt.bytes_len hm
    obtain ⟨a, r, bs, ps, x, y⟩ := v
    simp only [] at hb hp
    obtain ⟨s, hs⟩ : ∃ s, Vt.bytes (a, r, bs, ps, x, y) = s := ⟨_, rfl⟩
    rw [hs] at HR hlen ⊢
    obtain ⟨d, hd⟩ : ∃ d, Sh.sum (118 :: s) = d := ⟨_, rfl⟩
    rw [hd]
    have e1 := fun W => cat_run [118] s (by simp; omega) W
    have HS := Lib.hid (fun W => rsum_eqB hd (by simp; omega) W)
    have HG := Lib.hid (show Below w.heap.size w (w.alloc (.cells #[.int .i64 a, .int .i64 r, bv, pv, .int .i64 x, .int .i64 y] 27)) from (Below.refl _ _).alloc (Nat.le_refl _) _)
    have HB := Lib.hid hb
    have HP := Lib.hid hp
    obtain ⟨ab, cb, rfl⟩ := hb.len
    obtain ⟨ap, cp, rfl⟩ := hp.len
    clear hm hb hp mv hs hd
    go_enter Tryz.func11, Tryz.ntmps11
    go_wp2_with fail
    refine (rvbytes_eq (v := (a, r, bs, ps, x, y)) HR.out _ _ _ (HB.out.below HG.out) (HP.out.below HG.out) MV.out n1 n2).mono ?_
    rintro e w1 ⟨rfl, g1⟩
    have G1 := Lib.hid (HG.out.trans (g1.mono (by simp)))
    clear g1
    go_wp2_with fail
    refine (HS.out _).mono ?_
    rintro e w2 ⟨rfl, g2⟩
    have G2 := Lib.hid (grow_trans G1.out g2)
    clear g2
    go_wp2
    go_ret2
    exact ⟨rfl, G2.out⟩

theorem pvdigest_eq {v : Vt.Vtx} {n : Int} {R : List UInt8 × Nat} (h : Vt.digestR v n = R) (bv pv : Value) (w : World) (hb : BtsAt w bv v.2.2.1) (hp : TxAt w pv v.2.2.2.1) (mv : Vt.Mod v) (n1 : -9223372036854775808 ≤ n) (n2 : n ≤ 9223372036854775807) (hw : GW w) :
    Calls Tryz.prog 31 #[vtxV v.1 v.2.1 bv pv v.2.2.2.2.1 v.2.2.2.2.2, .int .i64 n] w fun e w' => e = .returned (.tuple #[tx R.1, .int .i64 R.2]) ∧ Below w.heap.size w w' := by subst h; exact pvdigest v bv pv n w hb hp mv n1 n2 hw
theorem rvdigest_eq {v : Vt.Vtx} {n : Int} {R : List UInt8 × Nat} (h : Vt.digestR v n = R) (bv pv : Value) (w : World) (hb : BtsAt w bv v.2.2.1) (hp : TxAt w pv v.2.2.2.1) (mv : Vt.Mod v) (n1 : -9223372036854775808 ≤ n) (n2 : n ≤ 9223372036854775807) :
    Calls Tryz.prog 11 #[vtxV v.1 v.2.1 bv pv v.2.2.2.2.1 v.2.2.2.2.2, .int .i64 n] w fun e w' => e = .returned (.tuple #[tx R.1, .int .i64 R.2]) ∧ Below w.heap.size w w' := by subst h; exact rvdigest v bv pv n w hb hp mv n1 n2
end Go.Proofs.YtflmfbcjmjlkbaaGreatDoor
end
