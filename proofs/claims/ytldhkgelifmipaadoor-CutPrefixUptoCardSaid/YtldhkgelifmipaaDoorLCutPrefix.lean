/- CutPrefix. -/
import Derived.Test.YtldhkgelifmipaaDoorCutRunP
namespace Go.Proofs.YtldhkgelifmipaaDoor
open Go.RowKit Go.ChangeShapes Go.WideShapes Go.ChangeAt

theorem Src.len {w : World} {v : Value} {m : Nat} {cs : List Value} (h : Src w v m cs) : ∃ a c, v = .slice a m c := by
  rcases h with ⟨rfl, rfl⟩ | ⟨ad, c, rfl, _⟩
  · exact ⟨_, _, rfl⟩
  · exact ⟨_, _, rfl⟩
theorem info_stp : (Tryd.prog.info? 43).map (fun i => (i.zero, i.size, i.bytes)) = some (some (.agg #[.slice none 0 0, .bool false]), 2, 32) := by kernel_rfl
theorem BlksM.take {B M : Nat} {w : World} : ∀ {cs : List Value} {bs : List Ct.Blk}, BlksM B M w cs bs → ∀ k, BlksM B M w (cs.take (k * 3)) (bs.take k)
  | [], [], _, k => by simp [BlksM]
  | _ :: _ :: _ :: _, _ :: _, _, 0 => by simp [BlksM]
  | _ :: _ :: _ :: _, _ :: _, h, k + 1 => by
    rw [show (k + 1) * 3 = k * 3 + 1 + 1 + 1 by omega]
    simp only [List.take_succ_cons]
    exact ⟨h.1, h.2.1, h.2.2.1, BlksM.take h.2.2.2 k⟩
theorem Ct.texts_sizes (l : List Ct.Stp) : (l.flatMap (·.1)).length ≤ Ct.stepSizes l := by
  induction l with
  | nil => simp
  | cons s l ih =>
    have := Dg.sizes_len s.1
    rw [Ct.stepSizes_cons, List.flatMap_cons, List.length_append]
    omega
/-- The beginning of an own row of blocks. -/
theorem own_front {w : World} {B n k : Nat} {t : TypeId} {v : Value} {cs : List Value} {bs : List Ct.Blk} (h : w.ownsRow B t 3 v n cs) (hb : BlksM 0 w.heap.size w cs bs) (hn : n = bs.length) (hk : k ≤ n) :
    (v = .slice none 0 0 ∧ k = 0) ∨ ∃ g cap, v = .slice (some ⟨g, 0, none⟩) n cap ∧ n ≤ cap ∧ cap ≤ maxLen ∧ ∀ c', BlkAt w (.slice (some ⟨g, 0, none⟩) k c') (bs.take k) := by
  have hh := h
  rcases h.2 with ⟨rfl, rfl⟩ | ⟨g, cap, cur, rfl, _, _, h1, h2, _⟩
  · exact .inl ⟨rfl, by omega⟩
  · refine .inr ⟨g, cap, rfl, h1, h2, fun c' => ⟨cs.take (k * 3), ?_, ?_⟩⟩
    · refine .inr ⟨g, 0, k, c', rfl, ?_, fun i hi => ?_⟩
      · rw [List.length_take, hh.1]
        exact Nat.min_eq_left (Nat.mul_le_mul_right 3 hk)
      · have hi' : i < cs.length := by
          rw [List.length_take] at hi
          omega
        have e : (cs.take (k * 3))[i] = cs[i] := by simp
        rw [e]
        have := hh.cells (g := g) rfl i cs[i] (List.getElem?_eq_getElem hi')
        have ha : (⟨g, 0, none⟩ : Addr).add i = ⟨g, 0 + i, none⟩ := by unfold Addr.add; split <;> simp_all
        rwa [ha] at this
    · exact (hb.all (Nat.le_refl _)).take k

set_option maxHeartbeats 16000000 in
set_option maxRecDepth 100000 in
theorem cutPrefix_core (v0 v1 : Value) (l more : List Ct.Stp) (cs0 cs1 : List Value) (w : World) (hs0 : Src w v0 l.length cs0) (hst0 : StpsM w cs0 l) (hs1 : Src w v1 more.length cs1) (hst1 : StpsM w cs1 more)
    (hsz : Ct.stepSizes l + Ct.stepSizes more ≤ 4194304) (hl : l.length ≤ 4194304 ∧ more.length ≤ 4194304) (hw : GW w) :
    Calls Tryd.prog 7 #[v0, v1] w fun e w' => e = .returned (.bool true) ∧ Below w.heap.size w w' := by
  obtain ⟨i0, hi, hz0, hz1, hz2⟩ := info_parts info_stp
  obtain ⟨C, hC⟩ : ∃ C, w.heap.size = C := ⟨_, rfl⟩
  have hwl : IntKind.i64.wrap ((l.length : Int) + (more.length : Int)) = (l.length : Int) + (more.length : Int) := IntWalk.i64_in _ ⟨by omega, by omega⟩
  have HS0 := Lib.hid hs0
  have HS1 := Lib.hid hs1
  have HT0 := Lib.hid hst0
  have HT1 := Lib.hid hst1
  have HW := Lib.hid hw
  obtain ⟨aa, ca, rfl⟩ := hs0.len
  obtain ⟨ab, cb, rfl⟩ := hs1.len
  by_cases h40 : 40 < l.length + more.length
  · have t1 : decide ((40 : Int) < (l.length : Int) + (more.length : Int)) = true := by rw [decide_eq_true_iff]; omega
    have t1' : decide (40 < l.length + more.length) = true := by rw [decide_eq_true_iff]; omega
    clear hs0 hs1 hst0 hst1 hw hsz
    go_enter Tryd.func7, Tryd.ntmps7
    go_wp2_with fail
    refine (cshown _ HW.out).mono ?_
    rintro e w1 ⟨rfl, h1⟩
    have HB1 := Lib.hid h1
    clear h1
    go_wp2_with fail
    go_ret
    exact ⟨rfl, HB1.out⟩
  · have t1 : decide ((40 : Int) < (l.length : Int) + (more.length : Int)) = false := by rw [decide_eq_false_iff_not]; omega
    have t1' : decide (40 < l.length + more.length) = false := by rw [decide_eq_false_iff_not]; omega
    obtain ⟨hp1, hp2⟩ := Ct.runs_prefix Ct.dig Ct.nxt l more
    have hr1 := Ct.runs_texts Ct.dig Ct.nxt l
    have hln := Ct.runs_len l l.length (Nat.le_refl _)
    rw [List.take_length] at hln
    have HTX := Lib.hid (fun x (h : x ∈ (Ct.runs Ct.dig Ct.nxt l).2) => show x.2.2.length ≤ 1099511627776 from by
      have e1 := (Ct.texts_memS (Ct.runs Ct.dig Ct.nxt l).2 x h).2
      have e2 := (Ct.runs_fit l l.length (Nat.le_refl _))
      have e3 := congrArg List.length hr1
      have e4 := Ct.texts_sizes l
      rw [List.length_append] at e3
      omega)
    have HRA := Lib.hid (fun (w1 : World) (hb : Below w.heap.size w w1) => runs_any (.slice aa l.length ca) l cs0 w1 (HS0.out.below hb) (HT0.out.keep hb) (by omega) (by omega) (HW.out.below hb))
    have HRB := Lib.hid (fun (v : Value) (w1 : World) (hv : Src w1 v (l ++ more).length (cs0 ++ cs1)) (hst : StpsM w1 (cs0 ++ cs1) (l ++ more)) (hg : GW w1) => runs_any v (l ++ more) (cs0 ++ cs1) w1 hv hst (by rw [Ct.stepSizes_app]; omega) (by rw [List.length_append]; omega) hg)
    have hbl : (Ct.runs Ct.dig Ct.nxt l).2.length ≤ 1099511627776 := by omega
    obtain ⟨r1, hr1⟩ : ∃ r, Ct.runs Ct.dig Ct.nxt l = r := ⟨_, rfl⟩
    obtain ⟨r2, hr2⟩ : ∃ r, Ct.runs Ct.dig Ct.nxt (l ++ more) = r := ⟨_, rfl⟩
    rw [hr1] at hp1 hp2 HTX HRA hbl
    rw [hr2] at hp1 hp2 HRB
    obtain ⟨⟨n1, p1, l1⟩, o1⟩ := r1
    obtain ⟨⟨n2, p2, l2⟩, o2⟩ := r2
    simp only at hp1 hp2 HTX hbl
    have q1 : decide ((o1.length : Int) ≤ (o2.length : Int)) = true := by rw [decide_eq_true_iff]; omega
    have q2 : decide (o1.length ≤ o2.length) = true := by rw [decide_eq_true_iff]; omega
    clear hs0 hs1 hst0 hst1 hw hsz hr1 hr2 hln
    go_enter Tryd.func7, Tryd.ntmps7
    go_wp2_with fail
    refine (cshown _ HW.out).mono ?_
    rintro e w1 ⟨rfl, h1⟩
    have HB1 := Lib.hid h1
    clear h1
    go_wp2_with fail
    refine (HRA.out _ HB1.out).mono ?_
    rintro e w2 ⟨bv1, uT1, cd1, rfl, ht1, ho1, hb1, h2⟩
    simp only at ht1 ho1 hb1
    obtain ⟨au1, cu1, rfl⟩ := ht1.len
    obtain ⟨ax1, cx1, rfl⟩ := (Src.own ho1).len
    have HB2 := Lib.hid (grow_trans HB1.out h2)
    have HK1 := Lib.hid (show BlkAt w2 (.slice ax1 o1.length cx1) o1 from ⟨cd1, FlatAt.own ho1, hb1.all (Nat.le_refl _)⟩)
    clear ht1 ho1 hb1 h2
    obtain ⟨wPa, hwPa⟩ : ∃ x, World.alloc w2 (.cells #[.int .i64 0, .string ⟨#[]⟩, .slice none 0 0] 24) = x := ⟨_, rfl⟩
    obtain ⟨Ha, hHa⟩ : ∃ x, (World.heap w2).size = x := ⟨_, rfl⟩
    have hPa : Below (World.heap w2).size w2 wPa := by rw [← hwPa]; exact (Below.refl _ _).alloc (Nat.le_refl _) _
    have kPa : KBox wPa Ha 24 (.int .i64 0) (.string ⟨#[]⟩) (.slice none 0 0) := by rw [← hwPa, ← hHa]; exact KBox.new _ _ _ _ _
    obtain ⟨p0a, p1a, p2a⟩ := kPa.cells
    obtain ⟨f0a, f1a, f2a⟩ := kPa.free
    obtain ⟨wQa, hwQa⟩ : ∃ x, World.setCell (World.setCell (World.setCell wPa ⟨Ha, 0, none⟩ (.int .i64 n1)) ⟨Ha, 1, none⟩ (tx p1)) ⟨Ha, 2, none⟩ (.slice au1 l1.length cu1) = x := ⟨_, rfl⟩
    have hbQa : Below (World.heap w2).size w2 wQa := by rw [← hwQa]; exact below_set3 hPa (by omega) _ _ _
    have kQa : KBox wQa Ha 24 (.int .i64 n1) (tx p1) (.slice au1 l1.length cu1) := by rw [← hwQa]; exact kPa.set _ _ _
    obtain ⟨q0a, q1a, q2a⟩ := kQa.cells
    have HBa := Lib.hid hbQa
    clear kPa hPa hbQa kQa
    have HBA := Lib.hid (grow_trans HB2.out HBa.out)
    have HL0 := Lib.hid (World.ownsRow_lit (base := wQa.heap.size) (e := 43) (size := 2) wQa #[] 0 (Nat.le_refl _) (by decide) rfl)
    have HA4 := Lib.hid (HS0.out.below (HBA.out.alloc HBA.out.size (.cells #[] 43)))
    go_wp2_with (first
      | (at_builtin; refine append_src rfl _ _ 39 rfl wQa.heap.size 43 i0 (.agg #[.slice none 0 0, .bool false]) 2 32 Tryd.underlying39 hi hz0 hz1 hz2 rfl (by decide) _ 0 [] rfl HL0.out _ l.length cs0 rfl (by simpa using (HT0.out).len) HA4.out (HT0.out).one (by unfold maxLen; omega) (by omega) (by simp) ?_; intro v5 w5 hown5 hg5; have HO5 := Lib.hid hown5; have HB5 := Lib.hid (((Below.refl wQa.heap.size wQa).alloc (Nat.le_refl _) (.cells #[] 43)).grown hg5 (by simp) (fun k hk => (HL0.out.lt k hk).1)); have HS5 := Lib.hid (HS1.out.below (grow_trans HBA.out HB5.out)); clear hown5 hg5)
      | (at_builtin; refine append_src rfl _ _ 39 rfl wQa.heap.size 43 i0 (.agg #[.slice none 0 0, .bool false]) 2 32 Tryd.underlying39 hi hz0 hz1 hz2 rfl (by decide) _ _ _ rfl HO5.out _ more.length cs1 rfl (by simpa using (HT1.out).len) HS5.out (HT1.out).one (by unfold maxLen; omega) (by omega) HB5.out.size ?_; intro v6 w6 hown6 hg6; have HO6 := Lib.hid hown6; have HB6 := Lib.hid (HB5.out.grown hg6 HB5.out.size (fun k hk => (HO5.out.lt k hk).1)); clear hown6 hg6))
    have HB26 := Lib.hid (grow_trans HBa.out HB6.out)
    have HB06 := Lib.hid (grow_trans HBA.out HB6.out)
    refine (HRB.out _ _ (Src.own (B := wQa.heap.size) (k := 2) (t := 43) (by simpa using HO6.out)) ((HT1.out.keep HB06.out).app (HT0.out.keep HB06.out)) (HW.out.below HB06.out)).mono ?_
    rintro e w7 ⟨bv2, uT2, cd2, rfl, ht2, ho2, hb2, h7⟩
    simp only at ht2 ho2 hb2
    obtain ⟨au2, cu2, rfl⟩ := ht2.len
    have HB7 := Lib.hid (grow_trans HB06.out h7)
    have HK7 := Lib.hid ((HK1.out.below HB26.out).below h7)
    have hfr := own_front ho2 hb2 rfl hp2
    rw [hp1] at hfr
    have HF2 := Lib.hid hfr
    clear ht2 hb2 h7 hfr p0a p1a p2a f0a f1a f2a q0a q1a q2a hwPa hwQa hHa HL0 HA4 HO5 HO6 HB5 HS5
    obtain ⟨wPb, hwPb⟩ : ∃ x, World.alloc w7 (.cells #[.int .i64 0, .string ⟨#[]⟩, .slice none 0 0] 24) = x := ⟨_, rfl⟩
    obtain ⟨Hb, hHb⟩ : ∃ x, (World.heap w7).size = x := ⟨_, rfl⟩
    have hPb : Below (World.heap w7).size w7 wPb := by rw [← hwPb]; exact (Below.refl _ _).alloc (Nat.le_refl _) _
    have kPb : KBox wPb Hb 24 (.int .i64 0) (.string ⟨#[]⟩) (.slice none 0 0) := by rw [← hwPb, ← hHb]; exact KBox.new _ _ _ _ _
    obtain ⟨p0b, p1b, p2b⟩ := kPb.cells
    obtain ⟨f0b, f1b, f2b⟩ := kPb.free
    obtain ⟨wQb, hwQb⟩ : ∃ x, World.setCell (World.setCell (World.setCell wPb ⟨Hb, 0, none⟩ (.int .i64 n2)) ⟨Hb, 1, none⟩ (tx p2)) ⟨Hb, 2, none⟩ (.slice au2 l2.length cu2) = x := ⟨_, rfl⟩
    have hbQb : Below (World.heap w7).size w7 wQb := by rw [← hwQb]; exact below_set3 hPb (by omega) _ _ _
    have kQb : KBox wQb Hb 24 (.int .i64 n2) (tx p2) (.slice au2 l2.length cu2) := by rw [← hwQb]; exact kPb.set _ _ _
    obtain ⟨q0b, q1b, q2b⟩ := kQb.cells
    have HBb := Lib.hid hbQb
    clear kPb hPb hbQb kQb
    have HB8 := Lib.hid (grow_trans HB7.out HBb.out)
    have HX1 := Lib.hid (HK7.out.below HBb.out)
    rcases HF2.out with ⟨rfl, hz⟩ | ⟨g, cap, rfl, hcap1, hcap2, hat⟩
    · have e2 : o2.length = 0 := by
        rcases ho2.2 with ⟨_, h⟩ | ⟨_, _, _, h, _⟩
        · exact h
        · cases h
      have hx2 : BlkAt wQb (.slice none 0 0) o1 := ⟨[], .inl ⟨_, _, rfl, rfl⟩, by rw [List.length_eq_zero_iff.1 hz]; trivial⟩
      have HRX := Lib.hid (rcblocks (.slice ax1 o1.length cx1) (.slice none 0 0) o1 wQb HX1.out hx2 hbl HTX.out)
      rw [hz] at HRX
      rw [hz, e2] at q1 q2
      rw [hz]
      clear ho2 HF2 hx2
      go_wp2_with fail
      refine HRX.out.mono ?_
      rintro e w12 ⟨rfl, h12⟩
      have HEND := Lib.hid (grow_trans HB8.out h12)
      clear h12
      go_wp2_with fail
      go_ret
      exact ⟨rfl, HEND.out⟩
    · have HRX := Lib.hid (fun c' => rcblocks (.slice ax1 o1.length cx1) (.slice (some ⟨g, 0, none⟩) o1.length c') o1 wQb HX1.out ((hat c').below HBb.out) hbl HTX.out)
      clear ho2 hat HF2
      go_wp2_with fail
      refine (HRX.out _).mono ?_
      rintro e w12 ⟨rfl, h12⟩
      have HEND := Lib.hid (grow_trans HB8.out h12)
      clear h12
      go_wp2_with fail
      go_ret
      exact ⟨rfl, HEND.out⟩

theorem cutPrefix_walk {H : Type} (enc : TypeId × Value → H) (W : World) (base : Nat) (v0 : Value) (v1 : Value) (d0 : DataW H) (d1 : DataW H) (p0 : List MemPlace) (p1 : List MemPlace)
    (h0 : DataW.Trod enc Tryd.prog W 0 (fun _ => true) true 39 v0 d0 p0) (o0 : Value.okWide Tryd.prog W .any base 39 v0)
    (h1 : DataW.Trod enc Tryd.prog W 0 (fun _ => true) true 39 v1 d1 p1) (o1 : Value.okWide Tryd.prog W .any base 39 v1)
    (_hsz : (DataW.weightsEach Tryd.prog [39, 39] [d0, d1]).all (· ≤ reachBytes) = true) (hk : Rows.uptoSmall H [d0, d1] = true) (hg : GW W) :
    Calls Tryd.prog 7 #[v0, v1] W fun e W' => e = .returned (.bool true) ∧ Below W.heap.size W W' := by
  obtain ⟨aa, la, ca, rfl⟩ := okWide_slice Tryd.underlying39 o0
  obtain ⟨ab, lb, cb, rfl⟩ := okWide_slice Tryd.underlying39 o1
  obtain ⟨f0, h0⟩ := h0
  obtain ⟨f1, h1⟩ := h1
  obtain ⟨l, cs0, s0, t0, b0, k0⟩ := trod_steps (y := (d0, p0)) h0
  obtain ⟨m, cs1, s1, t1, b1, k1⟩ := trod_steps (y := (d1, p1)) h1
  have hb : Rows.uptoBulkAll [d0, d1] ≤ 1048576 := of_decide_eq_true hk
  simp only [Rows.uptoBulkAll] at hb
  simp only [] at b0 b1 k0 k1
  exact cutPrefix_core _ _ l m cs0 cs1 W s0 t0 s1 t1 (by omega) (by omega) hg
end Go.Proofs.YtldhkgelifmipaaDoor
