/- The contract of the document's Row. -/
import Derived.Test.YtflmfbcjmjlkbaaDoorMark
import Derived.Test.YtflmfbcjmjlkbaaDoorDigTexts
import Derived.Test.YtflmfbcjmjlkbaaDoorDigRText
namespace Go.Proofs.YtflmfbcjmjlkbaaDoor
open Go.RowKit

theorem rnum_eq {n : Nat} {l : List UInt8} (h : Dg.num n = l) (hn : n < 18446744073709551616) (w : World) :
    Calls Tryd.prog 72 #[.int .u64 n] w fun e w' => e = .returned (tx l) ∧ Below w.heap.size w w' := by
  subst h
  exact rnum_any n hn w
theorem rtext_eq {t l : List UInt8} (h : Dg.text t = l) (hl : t.length ≤ 140737488351232) (w : World) :
    Calls Tryd.prog 103 #[tx t] w fun e w' => e = .returned (tx l) ∧ Below w.heap.size w w' := by
  subst h
  exact rtext_any t hl w

set_option maxHeartbeats 2000000 in
theorem rrow_any (v : Value) (ls : List (List UInt8)) (w : World) (hv : TxAt w v ls) (hl : ls.length ≤ 4294967296) (ht : (Dg.texts ls).length ≤ 4294967296) :
    Calls Tryd.prog 73 #[v] w fun e w' => e = .returned (tx (Dg.row ls)) ∧ Below w.heap.size w w' := by
  obtain ⟨i0, hi, hz0, hz1, hz2⟩ := info_parts info_byte
  obtain ⟨aa, ca, rfl⟩ := hv.len
  obtain ⟨nb, hnb⟩ : ∃ nb, Dg.num ls.length = nb := ⟨_, rfl⟩
  have hnl : nb.length ≤ 9 := by rw [← hnb]; exact Dg.num_len _
  have HV := Lib.hid hv
  have HN := Lib.hid hnb
  clear hv hnb
  go_enter Tryd.func73, Tryd.ntmps73
  go_wp2_with fail
  refine (rnum_eq HN.out (by omega) _).mono ?_
  rintro e w1 ⟨rfl, hb1⟩
  obtain ⟨b0, w2, hrun, hm, hb2⟩ := MarkRow.made (P := Tryd.prog) w1 9 104 5 nb (by unfold maxLen; omega) Tryd.underlying9 Tryd.underlying104 Tryd.underlying5
  have HM := Lib.hid hm
  clear hm
  go_wp2_with fail
  clear hrun
  have hbw : Below w.heap.size w w2 := grow_trans hb1 hb2
  have hw1 := hb1.size
  go_loopw [3, 4] (fun b i wr => ∃ k : Nat, i = .int .i64 k ∧ k ≤ ls.length ∧ MarkRow wr w1.heap.size 5 b (nb ++ Dg.texts (ls.take k)) ∧ Below w.heap.size w wr ∧ w1.heap.size ≤ wr.heap.size) (fun _ i _ => ls.length - (intOf i).toNat)
  case atStart => exact ⟨0, rfl, by omega, by simpa [Dg.texts] using HM.out, hbw, hb2.size⟩
  case round =>
    obtain ⟨k, rfl, hk, hmr, hbr, hsr⟩ := hrel
    by_cases hlt : k < ls.length
    · rcases HV.out with ⟨_, _, _, h0⟩ | ⟨bb, ob, cb, hvb, hcb⟩
      · rw [h0] at hlt; simp at hlt
      cases hvb
      have hc := below_cell hbr (hcb k hlt)
      have htl := Dg.text_len ls k hlt
      have htk := Dg.texts_take_len ls k
      have htk1 := Dg.texts_take_len ls (k + 1)
      have hts := Dg.texts_take ls k hlt
      obtain ⟨tb, htb⟩ : ∃ tb, Dg.text ls[k] = tb := ⟨_, rfl⟩
      rw [htb] at hts
      rw [hts] at htk1
      simp only [List.length_append] at htk1
      have HR := Lib.hid hmr
      have HT := Lib.hid hts
      have HB := Lib.hid htb
      clear hmr hts htb
      go_wp2_with fail
      refine (rtext_eq HB.out (by omega) _).mono ?_
      rintro e w3 ⟨rfl, hb3⟩
      have hs3 := hb3.size
      have hm3 := HR.out.below hb3
      have HM3 := Lib.hid hm3
      clear hm3
      go_wp2_with (at_builtin; refine wpList_append_mark rfl _ _ 104 9 rfl w1.heap.size 5 i0 Tryd.underlying104 Tryd.underlying9 hi hz0 hz1 hz2 _ _ tb rfl HM3.out rfl ?c1 ?c2 ?_)
      case c1 => simp only [List.length_append]; omega
      case c2 => omega
      intro v' w4 hm4 hg4
      have hm5 : MarkRow w4 w1.heap.size 5 v' (nb ++ Dg.texts (ls.take (k + 1))) := by rw [HT.out]; exact hm4
      have hb4 : Below w.heap.size w w4 := (grow_trans hbr hb3).grown hg4 (by omega) (fun k hk => by have := (HM3.out.lt k hk).1; omega)
      have hs4 : w1.heap.size ≤ w4.heap.size := by have := hg4.size; omega
      have HM5 := Lib.hid hm5
      clear hm4 hm5 hg4 HM3
      go_wp2
      go_roundw
      case rel => exact ⟨k + 1, by go_num, hlt, HM5.out, hb4, hs4⟩
      case measure => simp [intOf]; omega
    · obtain rfl : k = ls.length := by omega
      rw [List.take_length] at hmr
      have hf : Dg.row ls = nb ++ Dg.texts ls := by rw [Dg.row, HN.out]
      rw [← hf] at hmr
      obtain ⟨all, hall⟩ : ∃ all, Dg.row ls = all := ⟨_, rfl⟩
      rw [hall] at hmr
      have HF := Lib.hid hall
      clear hf hall
      obtain ⟨g, cap, rfl, hcell⟩ := hmr.cell
      have hconv := run_convert_bytes_arg (P := Tryd.prog) wr 104 5 Tryd.underlying104 Tryd.underlying5 g 0 _ cap _ (by simp) hcell 9 Tryd.underlying9
      rw [strOfNums_bytes] at hconv
      clear hmr hcell
      go_wp2
      go_ret
      exact ⟨by rw [HF.out]; rfl, hbr⟩
end Go.Proofs.YtflmfbcjmjlkbaaDoor
