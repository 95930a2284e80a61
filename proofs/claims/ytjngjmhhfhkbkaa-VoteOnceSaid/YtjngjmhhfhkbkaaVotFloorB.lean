/- Package vote as it landed: Floor. (Written by gen-vfloorb.py.) -/
import Derived.Test.YtjngjmhhfhkbkaaVotFloorA
namespace Go.Proofs.Ytjngjmhhfhkbkaa
open Go.RowKit

/-- 'clear' of n ballots. -/
theorem run_clear_bal (w : World) (t ty : TypeId) (ht : Try.prog.underlying t = some (.slice 24)) (b o n c : Nat) (hn : 0 < n)
    (hc : ∀ j, j < n * 3 → (w.cell? ⟨b, o + j, none⟩).isSome = true) (hf : ∀ j, j < n * 3 → w.frozen? ⟨b, o + j, none⟩ = false) :
    ∃ cs : List Value, cs.length = n * 3 ∧ (Builtin.clear_ #[t] ty #[.slice (some ⟨b, o, none⟩) n c]).run Try.prog w = .ok (.tuple #[]) (w.setCells b o cs) := by
  obtain ⟨cs, hcs⟩ : ∃ cs, (Builtin.zeroCells (Value.agg #[.int .i64 0, .int .i64 0, .string ⟨#[]⟩]).cells n).toList = cs := ⟨_, rfl⟩
  have hl : cs.length = n * 3 := by
    have e : (Value.agg #[.int .i64 0, .int .i64 0, .string ⟨#[]⟩]).cells.size = 3 := by decide
    rw [← hcs, Array.length_toList, size_zeroCells, e]
  have h1 : ∀ v ∈ cs, v.oneCell' = true := by
    intro v hv
    rw [← hcs] at hv
    obtain ⟨i, hi, rfl⟩ := List.getElem_of_mem hv
    simp only [Builtin.zeroCells]
    have h3 : i % 3 = 0 ∨ i % 3 = 1 ∨ i % 3 = 2 := by omega
    have e : (Value.agg #[.int .i64 0, .int .i64 0, .string ⟨#[]⟩]).cells = #[.int .i64 0, .int .i64 0, .string ⟨#[]⟩] := by rfl
    simp only [e]
    rcases h3 with h | h | h <;> simp [h] <;> rfl
  have hst := run_storeCells_cells (P := Try.prog) b o cs 0 w (by simpa [hl] using hc) (by simpa [hl] using hf) h1
  simp only [Nat.add_zero] at hst
  refine ⟨cs, hl, ?_⟩
  obtain ⟨m, rfl⟩ : ∃ m, n = m + 1 := ⟨n - 1, by omega⟩
  simp [Builtin.clear_, run_underlying ht, hcs, hst]

theorem below_setCells {B : Nat} {a : World} (b : Nat) (hB : B ≤ b) : ∀ (vs : List Value) (o : Nat) (w : World), Below B a w → Below B a (w.setCells b o vs)
  | [], _, _w, h => h
  | v :: r, o, _w, h => below_setCells b hB r (o + 1) _ (h.setCell (p := ⟨b, o, none⟩) hB v)

set_option maxHeartbeats 4000000 in
/-- slices.DeleteFunc over a row of the call's own (from block 'base' on). -/
theorem pdelete (base g cap : Nat) (l : List Vt.Bl) (low : Int) (B : Nat) (w : World) (hb0 : base ≤ g) (hBg : B < base) (hgl : g < w.heap.size) (ho : BalOwn w g l) (hcap : l.length ≤ cap) (hcap2 : cap ≤ 9223372036854775807) (hl : l.length ≤ 140737488351232) (h0 : w.cell? ⟨B, 0, none⟩ = some (.int .i64 low)) :
    Calls Try.prog 25 #[.slice (some ⟨g, 0, none⟩) l.length cap, .func (.func 26) #[] #[.pointer (some ⟨B, 0, none⟩)]] w fun e w' => ∃ v, e = .returned v ∧ BalNew base w' v (Vt.floor l low) ∧ Below base w w' := by
  have hidx := fun W hv h0 => pfidx (.slice (some ⟨g, 0, none⟩) l.length cap) l low B W hv (by omega) h0
  have hv : BalAt w (.slice (some ⟨g, 0, none⟩) l.length cap) l := .inr ⟨g, 0, cap, rfl, hcap, hcap2, ho.1⟩
  have HV := Lib.hid hv
  by_cases hw : Vt.lead low l = l.length
  · have hI : leadI low l = -1 := by rw [leadI, if_neg (by omega)]
    have hF := Lib.hid (Vt.lead_whole low l hw)
    rw [hI] at hidx
    clear hI hw hv ho
    go_enter Try.func25, Try.ntmps25
    go_wp2_with fail
    refine (hidx _ HV.out h0).mono ?_
    rintro e w1 ⟨rfl, h1⟩
    go_wp2
    go_ret
    exact ⟨_, rfl, ⟨by rw [hF.out]; exact HV.out.below h1, fun k hk => by have e : g = k := Option.some.inj hk; omega⟩, h1.mono (by omega)⟩
  · have hlt0 : Vt.lead low l < l.length := by have := Vt.lead_le low l; omega
    have hI : leadI low l = (Vt.lead low l : Int) := by rw [leadI, if_pos hlt0]
    have hcut := Vt.lead_cut low l hlt0
    rw [hI] at hidx
    obtain ⟨K, hK⟩ : ∃ K, Vt.lead low l = K := ⟨_, rfl⟩
    simp only [hK] at hidx hcut hlt0
    have HCUT := Lib.hid hcut
    have HO := Lib.hid ho
    clear hI hw hv ho hK hcut
    have hne : ((K : Int) == -1) = false := by rw [beq_eq_false_iff_ne]; omega
    have hK1 : IntKind.i64.wrap ((K : Int) + 1) = (K : Int) + 1 := IntWalk.i64_in _ ⟨by omega, by omega⟩
    go_enter Try.func25, Try.ntmps25
    go_wp2_with fail
    refine (hidx _ HV.out h0).mono ?_
    rintro e w1 ⟨rfl, h1⟩
    have HO1 := Lib.hid (HO.out.below hgl h1)
    have HC0 := Lib.hid h0
    have H1 := Lib.hid h1
    clear hidx HO HV h0 h1
    go_wp2_with fail
    clear hne
    go_loopw [5, 6, 7] (fun i j _ wr => ∃ (a c : Nat) (m : List Vt.Bl), i = .int .i64 a ∧ j = .int .i64 (c : Nat) ∧ a < c ∧ c ≤ l.length ∧ m.length = l.length ∧ m.take a = Vt.floor (l.take c) low ∧ m.drop c = l.drop c ∧ BalOwn wr g m ∧ Below base w wr ∧ w.heap.size ≤ wr.heap.size) (fun _ j _ _ => l.length - (intOf j).toNat)
    case atStart => exact ⟨K, K + 1, l, rfl, by go_num, by omega, by omega, rfl, HCUT.out.symm, rfl, HO1.out, H1.out.mono (by omega), H1.out.size⟩
    case round =>
      clear HO1 HCUT H1 hlt0 hK1
      obtain ⟨a, c, m, rfl, rfl, hac, hc, hm, ht, hd, ho, hbel, hsz⟩ := hrel
      by_cases hlt : c < l.length
      · have hcm : c < m.length := by omega
        have hmc : m[c] = l[c] := by
          have e : (m.drop c)[0]'(by simp; omega) = (l.drop c)[0]'(by simp; omega) := by simp only [hd]
          simpa using e
        obtain ⟨c1, c2, c3⟩ := ho.1 c hcm
        obtain ⟨d1, d2, d3⟩ := ho.1 a (by omega)
        obtain ⟨z, hz⟩ : ∃ z, m[a]'(by omega) = z := ⟨_, rfl⟩
        simp only [hz] at d1 d2 d3
        clear hz
        have f1 := ho.2 (a * 3) (by omega)
        have f2 := ho.2 (a * 3 + 1) (by omega)
        have f3 := ho.2 (a * 3 + 2) (by omega)
        rw [hmc] at c1 c2 c3
        have hst := Vt.floor_step l low c hlt
        have hcl := fun W h0 => pfclos l[c] low B W h0
        have hBw : wr.cell? ⟨B, 0, none⟩ = some (.int .i64 low) := (hbel.cell (p := ⟨B, 0, none⟩) hBg).trans HC0.out
        have hd1 : m.drop (c + 1) = l.drop (c + 1) := by rw [← List.drop_drop, ← List.drop_drop, hd]
        have HD1 := Lib.hid hd1
        have HT := Lib.hid ht
        have HM := Lib.hid hm
        have HO := Lib.hid ho
        have HB := Lib.hid hbel
        have HNE := Lib.hid (show ∀ a b, m.drop c = l.drop c → a < b → b ≤ c → True from fun _ _ _ _ _ => trivial)
        have hgr : g < wr.heap.size := by omega
        have nc : wr.heap.size ≠ g := by omega
        clear hd1 hd ht hm ho hbel hmc HC0 HNE
        obtain ⟨y, hy⟩ : ∃ y, l[c] = y := ⟨_, rfl⟩
        simp only [hy] at c1 c2 c3 hst hcl
        have HY := Lib.hid hy
        clear hy
        have HST := Lib.hid hst
        clear hst
        obtain ⟨x, r, t⟩ := y
        simp only [iv, Nat.zero_add] at c1 c2 c3 d1 d2 d3 hcl
        have hg2 : Below wr.heap.size wr (wr.alloc (.cells #[.int .i64 x, .int .i64 r, tx t] 24)) := (Below.refl _ _).alloc (Nat.le_refl _) _
        have hB2 := below_cell hg2 hBw
        have ho2 := HO.out.below hgr hg2
        have n1 : (wr.alloc (.cells #[.int .i64 x, .int .i64 r, tx t] 24)).cell? ⟨wr.heap.size, 0, none⟩ = some (.int .i64 x) := by simp
        have n2 : (wr.alloc (.cells #[.int .i64 x, .int .i64 r, tx t] 24)).cell? ⟨wr.heap.size, 1, none⟩ = some (.int .i64 r) := by simp
        have n3 : (wr.alloc (.cells #[.int .i64 x, .int .i64 r, tx t] 24)).cell? ⟨wr.heap.size, 2, none⟩ = some (tx t) := by simp
        by_cases hr : r ≤ low
        · rw [decide_eq_true hr] at hcl
          rw [if_neg (by simpa using hr), List.append_nil] at HST
          clear hr
          go_wp2_with fail
          refine (hcl _ hB2).mono ?_
          rintro e w2 ⟨rfl, h2⟩
          have ho3 := ho2.below (by simp; omega) h2
          have hb3 := HB.out.trans (((Below.refl _ _).alloc (Nat.le_refl _) _).trans (h2.mono (by simp)) |>.mono (show base ≤ wr.heap.size by omega))
          have hs3 := h2.size
          have HO3 := Lib.hid ho3
          have HB3 := Lib.hid hb3
          clear ho2 ho3 hb3 h2 n1 n2 n3 hB2 hg2
          go_wp2
          go_roundw
          case rel => exact ⟨a, c + 1, m, rfl, by go_num, by omega, by omega, HM.out, by rw [HST.out]; exact HT.out, HD1.out, HO3.out, HB3.out, by simp at hs3; omega⟩
          case measure => simp [intOf]; omega
        · rw [decide_eq_false hr] at hcl
          rw [if_pos (by simpa using hr)] at HST
          have hal : a < m.length := by rw [HM.out]; omega
          have htk : (m.set a (x, r, t)).take (a + 1) = Vt.floor (l.take (c + 1)) low := by
            rw [HST.out, ← HT.out, List.take_succ_eq_append_getElem (by simpa using hal), List.getElem_set_self, List.take_set_of_le (Nat.le_refl _)]
          have hdk : (m.set a (x, r, t)).drop (c + 1) = l.drop (c + 1) := by
            rw [List.drop_set_of_lt (by omega)]; exact HD1.out
          have HTK := Lib.hid htk
          have HDK := Lib.hid hdk
          have hga : g < (wr.alloc (.cells #[.int .i64 x, .int .i64 r, tx t] 24)).heap.size := by simp; omega
          have F1 := Lib.hid f1
          have F2 := Lib.hid f2
          have F3 := Lib.hid f3
          have D1 := Lib.hid d1
          have D2 := Lib.hid d2
          have D3 := Lib.hid d3
          clear hr htk hdk d1 d2 d3 f1 f2 f3
          go_wp2_with fail
          refine (hcl _ hB2).mono ?_
          rintro e w2 ⟨rfl, h2⟩
          have hs3 := h2.size
          have d1 := below_cell h2 (below_cell hg2 D1.out)
          have d2 := below_cell h2 (below_cell hg2 D2.out)
          have d3 := below_cell h2 (below_cell hg2 D3.out)
          have f1 : w2.frozen? ⟨g, a * 3, none⟩ = false := by rw [h2.frozen (p := ⟨g, a * 3, none⟩) hga, hg2.frozen (p := ⟨g, a * 3, none⟩) hgr]; exact F1.out
          have f2 : w2.frozen? ⟨g, a * 3 + 1, none⟩ = false := by rw [h2.frozen (p := ⟨g, a * 3 + 1, none⟩) hga, hg2.frozen (p := ⟨g, a * 3 + 1, none⟩) hgr]; exact F2.out
          have f3 : w2.frozen? ⟨g, a * 3 + 2, none⟩ = false := by rw [h2.frozen (p := ⟨g, a * 3 + 2, none⟩) hga, hg2.frozen (p := ⟨g, a * 3 + 2, none⟩) hgr]; exact F3.out
          have m1 := below_cell h2 n1
          have m2 := below_cell h2 n2
          have m3 := below_cell h2 n3
          have ho3 := (ho2.below hga h2).set hal (x, r, t)
          have hb3 := HB.out.trans (((Below.refl _ _).alloc (Nat.le_refl _) _).trans (h2.mono (by simp)) |>.mono (show base ≤ wr.heap.size by omega))
          have hb4 : Below base w (((w2.setCell ⟨g, a * 3, none⟩ (iv x)).setCell ⟨g, a * 3 + 1, none⟩ (iv r)).setCell ⟨g, a * 3 + 2, none⟩ (tx t)) := ((hb3.setCell (p := ⟨g, a * 3, none⟩) hb0 _).setCell (p := ⟨g, a * 3 + 1, none⟩) hb0 _).setCell (p := ⟨g, a * 3 + 2, none⟩) hb0 _
          have HO3 := Lib.hid ho3
          have HB4 := Lib.hid hb4
          have ha1 : (a : Int) < (l.length : Int) := by omega
          have ha2 : (0 : Int) ≤ (a : Int) := by omega
          have ha3 : IntKind.i64.wrap ((a : Int) + 1) = (a : Int) + 1 := IntWalk.i64_in _ ⟨by omega, by omega⟩
          clear ho2 ho3 hb3 hb4 h2 n1 n2 n3 hB2 hg2
          go_wp2
          go_roundw
          case rel => exact ⟨a + 1, c + 1, m.set a (x, r, t), by go_num, by go_num, by omega, by omega, by rw [List.length_set]; exact HM.out, HTK.out, HDK.out, HO3.out, HB4.out, by simp at hs3 ⊢; omega⟩
          case measure => simp [intOf]; omega
      · obtain rfl : c = l.length := by omega
        rw [List.take_length] at ht
        have hla : (Vt.floor l low).length = a := by rw [← ht, List.length_take]; omega
        obtain ⟨cs, hcs, hclr⟩ : ∃ cs : List Value, cs.length = (l.length - a) * 3 ∧ ∀ ty, (Builtin.clear_ #[22] ty #[.slice (some ⟨g, a * 3, none⟩) (l.length - a) (cap - a)]).run Try.prog wr = .ok (.tuple #[]) (wr.setCells g (a * 3) cs) := by
          have hcell : ∀ j, j < (l.length - a) * 3 → (wr.cell? ⟨g, a * 3 + j, none⟩).isSome = true := by
            intro j hj
            have hlm : (ballots m).length = m.length * 3 := ballots_len m
            have hr := bal_row ho.1 (a * 3 + j) _ (List.getElem?_eq_getElem (by rw [hlm, hm]; omega))
            have hadd : (⟨g, 0, none⟩ : Addr).add (a * 3 + j) = ⟨g, a * 3 + j, none⟩ := by unfold Addr.add; split <;> simp_all
            rw [hadd] at hr
            rw [hr]; rfl
          have hfz : ∀ j, j < (l.length - a) * 3 → wr.frozen? ⟨g, a * 3 + j, none⟩ = false := fun j hj => ho.2 _ (by rw [hm]; omega)
          obtain ⟨cs, h1, h2⟩ := run_clear_bal wr 22 0 Try.underlying22 g (a * 3) (l.length - a) (cap - a) (by omega) hcell hfz
          exact ⟨cs, h1, fun _ => h2⟩
        have hcl2 : BalCells (wr.setCells g (a * 3) cs) g 0 (Vt.floor l low) := by
          intro k hk
          obtain ⟨c1, c2, c3⟩ := ho.1 k (by omega)
          have e : m[k]'(by omega) = (Vt.floor l low)[k] := by simp only [← ht, List.getElem_take]
          rw [e] at c1 c2 c3
          refine ⟨?_, ?_, ?_⟩
          · rw [World.cell?_setCells_out _ _ _ _ _ (by intro _ _; left; simp; omega)]; exact c1
          · rw [World.cell?_setCells_out _ _ _ _ _ (by intro _ _; left; simp; omega)]; exact c2
          · rw [World.cell?_setCells_out _ _ _ _ _ (by intro _ _; left; simp; omega)]; exact c3
        have hbw := below_setCells g hb0 cs (a * 3) wr hbel
        have HR := Lib.hid (show BalAt (wr.setCells g (a * 3) cs) (.slice (some ⟨g, 0, none⟩) a cap) (Vt.floor l low) from .inr ⟨g, 0, cap, by rw [hla], by omega, hcap2, hcl2⟩)
        have HB := Lib.hid hbw
        have ha1 : (a : Int) ≤ (cap : Int) := by omega
        have ha2 : (0 : Int) ≤ (a : Int) := by omega
        have ha4 : (a : Int) ≤ (l.length : Int) := by omega
        have ha5 : ¬ a = cap := by omega
        have ha6 : a < cap := by omega
        clear hcs hcl2 hbw hla ht hd ho hm hbel
        go_wp2_with (simp only [hclr])
        go_ret
        exact ⟨_, rfl, ⟨HR.out, fun k hk => by have e : g = k := Option.some.inj hk; omega⟩, HB.out⟩
end Go.Proofs.Ytjngjmhhfhkbkaa
