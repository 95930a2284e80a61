/- The contract of Row, in the program's own text. -/
import Derived.Test.YtflmfbcjmjlkbaaDoorBuilder
import Derived.Test.YtflmfbcjmjlkbaaDoorDigTexts
namespace Go.Proofs.YtflmfbcjmjlkbaaDoor
open Go.RowKit

theorem num_eq {n : Nat} {l : List UInt8} (h : Dg.num n = l) (hn : n < 18446744073709551616) (w : World) :
    Calls Tryd.prog 41 #[.int .u64 n] w fun e w' => e = .returned (tx l) ∧ Below w.heap.size w w' := by
  subst h
  exact num_any n hn w
theorem text_eq {t l : List UInt8} (h : Dg.text t = l) (hl : t.length ≤ 140737488351232) (w : World) :
    Calls Tryd.prog 40 #[tx t] w fun e w' => e = .returned (tx l) ∧ Below w.heap.size w w' := by
  subst h
  exact text_any t hl w

theorem isBuilder_below {B b : Nat} {bs : List Value} {w w' : World} (h : Lib.IsBuilder 122 5 B b bs w) (hb : Below w.heap.size w w') : Lib.IsBuilder 122 5 B b bs w' := by
  have one : ∀ p, Lib.BuilderAt 122 5 B b p bs w → Lib.BuilderAt 122 5 B b p bs w' := by
    rintro p ⟨hB, v, hk, ho, hn⟩
    refine ⟨hB, v, by rw [hb.block b (Array.getElem?_eq_some_iff.1 hk).1]; exact hk, ⟨ho.1, ?_⟩, hn⟩
    rcases ho.2 with h0 | ⟨g, cap, cur, hv, hg, hh, r⟩
    · exact .inl h0
    · exact .inr ⟨g, cap, cur, hv, hg, by rw [hb.block g (Array.getElem?_eq_some_iff.1 hh).1]; exact hh, r⟩
  rcases h with h | h
  · exact .inl (one _ h)
  · exact .inr (one _ h)

set_option maxHeartbeats 2000000 in
theorem row_any (v : Value) (ls : List (List UInt8)) (w : World) (hv : TxAt w v ls) (hl : ls.length ≤ 4294967296) (ht : (Dg.texts ls).length ≤ 4294967296) :
    Calls Tryd.prog 67 #[v] w fun e w' => e = .returned (tx (Dg.row ls)) ∧ Below w.heap.size w w' := by
  obtain ⟨aa, ca, rfl⟩ := hv.len
  obtain ⟨nb, hnb⟩ : ∃ nb, Dg.num ls.length = nb := ⟨_, rfl⟩
  have hnl : nb.length ≤ 9 := by rw [← hnb]; exact Dg.num_len _
  have HV := Lib.hid hv
  have HN := Lib.hid hnb
  clear hv hnb
  go_enter Tryd.func67, Tryd.ntmps67
  go_wp2_with fail
  refine (num_eq HN.out (by omega) _).mono ?_
  rintro e w1 ⟨rfl, hb1⟩
  have hB0 := isBuilder_below (Lib.fresh_isBuilder 122 5 w) hb1
  have hs1 := hb1.size
  have hw1 : w.heap.size ≤ w1.heap.size := by simp at hs1; omega
  have HB0 := Lib.hid hB0
  clear hB0
  go_wp2_with fail
  refine (writeString_any w.heap.size w.heap.size [] nb _ HB0.out (by simp; omega) hw1).mono ?_
  rintro e w2 ⟨rfl, hB2, hb2⟩
  have hbw : Below w.heap.size w w2 := (((Below.refl _ _).alloc (Nat.le_refl _) _).trans (hb1.mono (by simp))).trans hb2
  have hs2 := hb2.size
  have HB2 := Lib.hid hB2
  clear hB2
  go_wp2_with fail
  go_loopw [13] (fun i wr => ∃ k : Nat, i = .int .i64 k ∧ k ≤ ls.length ∧ Lib.IsBuilder 122 5 w.heap.size w.heap.size ((nb ++ Dg.texts (ls.take k)).map bv) wr ∧ Below w.heap.size w wr) (fun i _ => ls.length - (intOf i).toNat)
  case atStart => exact ⟨0, rfl, by omega, by simpa [Dg.texts] using HB2.out, hbw⟩
  case round =>
    obtain ⟨k, rfl, hk, hB, hbr⟩ := hrel
    by_cases hlt : k < ls.length
    · rcases HV.out with ⟨_, _, _, h0⟩ | ⟨bb, ob, cb, hvb, hcb⟩
      · rw [h0] at hlt; simp at hlt
      cases hvb
      have hc := below_cell hbr (hcb k hlt)
      have htl := Dg.text_len ls k hlt
      have htk := Dg.texts_take_len ls k
      have htk1 := Dg.texts_take_len ls (k + 1)
      have hts := Dg.texts_take ls k hlt
      obtain ⟨tb, htb⟩ : ∃ tb, Dg.text ls[k] = tb := ⟨_, rfl⟩
      rw [htb] at hts
      rw [hts] at htk1
      simp only [List.length_append] at htk1
      have hsr := hbr.size
      have HB := Lib.hid hB
      have HT := Lib.hid hts
      have HX := Lib.hid htb
      clear hB hts htb
      go_wp2_with fail
      refine (text_eq HX.out (by omega) _).mono ?_
      rintro e w3 ⟨rfl, hb3⟩
      have hs3 := hb3.size
      have hB3 := isBuilder_below HB.out hb3
      have HB3 := Lib.hid hB3
      clear hB3
      go_wp2_with fail
      refine (writeString_any w.heap.size w.heap.size _ tb _ HB3.out (by simp only [List.length_map, List.length_append]; omega) (by omega)).mono ?_
      rintro e w4 ⟨rfl, hB4, hb4⟩
      have hB5 : Lib.IsBuilder 122 5 w.heap.size w.heap.size ((nb ++ Dg.texts (ls.take (k + 1))).map bv) w4 := by
        rw [HT.out, ← List.append_assoc, List.map_append]; exact hB4
      have hb5 : Below w.heap.size w w4 := (grow_trans hbr hb3).trans hb4
      have HB5 := Lib.hid hB5
      clear hB4 hB5 HB3
      go_wp2
      go_roundw
      case rel => exact ⟨k + 1, by go_num, hlt, HB5.out, hb5⟩
      case measure => simp [intOf]; omega
    · obtain rfl : k = ls.length := by omega
      rw [List.take_length] at hB
      have hf : Dg.row ls = nb ++ Dg.texts ls := by rw [Dg.row, HN.out]
      rw [← hf] at hB
      have hsr := hbr.size
      have HB := Lib.hid hB
      clear hB hf
      go_wp2_with fail
      refine (string_any w.heap.size w.heap.size _ _ HB.out (by omega)).mono ?_
      rintro e w3 ⟨rfl, hb3⟩
      go_wp2_with fail
      go_ret
      exact ⟨rfl, hbr.trans hb3⟩
end Go.Proofs.YtflmfbcjmjlkbaaDoor
