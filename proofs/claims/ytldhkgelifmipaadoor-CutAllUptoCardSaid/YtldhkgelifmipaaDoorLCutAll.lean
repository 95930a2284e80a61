/- CutAll. -/
import Derived.Test.YtldhkgelifmipaaDoorCutRunP
import Derived.Test.YtldhkgelifmipaaDoorCutChainR
namespace Ct
theorem fold_nxt (bs : List Blk) : ∀ n : Int, 0 ≤ n → n + bs.length ≤ 9223372036854775807 → bs.foldl (fun m _ => nxt m) n = n + bs.length := by
  induction bs with
  | nil => intro n _ _; simp
  | cons b bs ih =>
    intro n h0 h1
    simp only [List.length_cons, Int.natCast_add] at h1
    have e : nxt n = n + 1 := Go.IntWalk.i64_in _ ⟨by omega, by omega⟩
    rw [List.foldl_cons, e, ih (n + 1) (by omega) (by omega)]
    simp only [List.length_cons]
    omega
theorem chained_fit (bs : List Blk) : ∀ (n : Int) (p : Tx), chained dig nxt bs n p = true → n ≤ 9223372036854775807 → p.length ≤ 1073741824 → ∀ b ∈ bs, b.1 ≤ 9223372036854775807 ∧ b.2.1.length ≤ 1073741824 := by
  induction bs with
  | nil => intro n p _ _ _ b hb; cases hb
  | cons x bs ih =>
    intro n p h hn hp b hb
    rw [chained, Bool.and_eq_true, Bool.and_eq_true, decide_eq_true_iff, decide_eq_true_iff] at h
    obtain ⟨⟨h1, h2⟩, h3⟩ := h
    rcases List.mem_cons.1 hb with rfl | hb
    · exact ⟨by omega, by rw [h2]; exact hp⟩
    · refine ih _ _ h3 (nxt_le _) ?_ b hb
      rw [dig, sum_len]
      decide
theorem sizes_memS (bs : List Blk) (b : Blk) (h : b ∈ bs) : Dg.sizes b.2.2 ≤ Dg.sizes (texts bs) := by
  induction bs with
  | nil => cases h
  | cons x bs ih =>
    have e : texts (x :: bs) = x.2.2 ++ texts bs := by simp [texts]
    rw [e, sizes_app]
    rcases List.mem_cons.1 h with rfl | h
    · omega
    · have := ih h
      omega
theorem sizes_flat (l : List Stp) : Dg.sizes (l.flatMap (·.1)) = stepSizes l := by
  induction l with
  | nil => simp [stepSizes, Dg.sizes]
  | cons s l ih => rw [List.flatMap_cons, sizes_app, stepSizes_cons, ih]
theorem texts_take (bs : List Blk) (k : Nat) (h : k < bs.length) : texts (bs.take (k + 1)) = texts (bs.take k) ++ bs[k].2.2 := by
  rw [List.take_succ_eq_append_getElem h, texts_app]
  simp [texts]
theorem fed_take (l : List Stp) (k : Nat) (h : k < l.length) : (l.take (k + 1)).flatMap (·.1) = (l.take k).flatMap (·.1) ++ l[k].1 := by
  rw [List.take_succ_eq_append_getElem h, List.flatMap_append]
  simp
theorem fed_len (l : List Stp) (k : Nat) : ((l.take k).flatMap (·.1)).length ≤ stepSizes l := by
  have h1 := Dg.sizes_len ((l.take k).flatMap (·.1))
  rw [sizes_flat] at h1
  have := step_take l k
  omega
theorem texts_len (bs : List Blk) (k : Nat) : (texts (bs.take k)).length ≤ (texts bs).length := by
  conv => rhs; rw [← List.take_append_drop k bs, texts_app, List.length_append]
  omega
end Ct
namespace Go.Proofs.YtldhkgelifmipaaDoor
open Go.RowKit Go.ChangeShapes Go.WideShapes Go.ChangeAt

theorem runs_blkfit (l : List Ct.Stp) (hs : Ct.stepSizes l ≤ 4194304) (hl : l.length ≤ 40) : BlkFit (Ct.runs Ct.dig Ct.nxt l).2 := by
  have h1 := Ct.runs_len l l.length (Nat.le_refl _)
  rw [List.take_length] at h1
  refine ⟨by omega, fun b hb => ?_⟩
  obtain ⟨e1, e2⟩ := Ct.chained_fit _ _ _ (Ct.runs_well Ct.dig Ct.nxt l).inv.chain (by omega) (by simp) b hb
  have e3 := Ct.sizes_memS _ b hb
  have e4 := congrArg Dg.sizes (Ct.runs_texts Ct.dig Ct.nxt l)
  rw [Ct.sizes_app, Ct.sizes_flat] at e4
  exact ⟨fit_of (by omega) e2, e1⟩

section
variable {P : Program} {w : World} {ops : Array Oper} {rest : List Oper} {o : Oper} {a : Act} {Q : Exit → Act → World → Prop}
theorem append_noneC (hgd : o.guard = none) (s x : Operand) (t : TypeId)
    (ho : o.op = .call { callee := .builtin .append, args := #[s, x], argTypes := #[t, t] })
    (base : Nat) (e : TypeId) (i : TypeInfo) (size : Nat) (ht : P.underlying t = some (.slice e)) (hi : P.info? e = some i)
    (v : Value) (n : Nat) (xs : List Value) (hs : a.eval s = v) (hown : w.ownsRow base e size v n xs) (c : Nat) (hx : a.eval x = .slice none 0 c)
    (h : wpList P ops Q rest (a.put o.dst v) w) : wpList P ops Q (o :: rest) a w := by
  refine wpList_plain hgd fun K hK => ?_
  have hrun : (Builtin.append_ #[t, t] o.type #[v, .slice none 0 c]).run P w = .ok v w := by
    rcases hown.2 with ⟨rfl, rfl⟩ | ⟨g, cap, cur, rfl, _, _, hnc, _⟩
    · simp [Builtin.append_, run_underlying ht, sizeOf, typeInfo, hi, Builtin.lenOf, Builtin.firstCells]
    · simp [Builtin.append_, run_underlying ht, sizeOf, typeInfo, hi, Builtin.lenOf, Builtin.firstCells, hnc, storeCells]
  unfold Oper.wp
  simp [execOp, ho, resolve, invoke, builtin, hs, hx, hrun, Result.andThen]
  exact hK _ _ h
/-- Texts are put behind a row of the call's own, wherever they lie. -/
theorem append_tx (hgd : o.guard = none) (s x : Operand) (t : TypeId)
    (ho : o.op = .call { callee := .builtin .append, args := #[s, x], argTypes := #[t, t] })
    (base : Nat) (e : TypeId) (i : TypeInfo) (z : Value) (ht : P.underlying t = some (.slice e)) (hi : P.info? e = some i) (hz : i.zero = some z)
    (hsize : i.size = 1) (hby : i.bytes = 16) (hzs : z.cells.size = 1)
    (v : Value) (n : Nat) (xs : List Value) (hs : a.eval s = v) (hown : w.ownsRow base e 1 v n xs)
    (xv : Value) (ls : List (List UInt8)) (hx : a.eval x = xv) (hT : TxAt w xv ls)
    (h63 : n + ls.length ≤ maxLen) (hbytes : (n + ls.length) * 16 ≤ 140737488355328) (hbase : base ≤ w.heap.size)
    (h : ∀ v' w', w'.ownsRow base e 1 v' (n + ls.length) (xs ++ ls.map tx) → w.grownBy w' v.ownBlock → wpList P ops Q rest (a.put o.dst v') w') : wpList P ops Q (o :: rest) a w := by
  rcases hT with ⟨p, c, hv, rfl⟩ | ⟨b, off, c, hv, hc⟩
  · cases p with
    | none => exact append_noneC hgd s x t ho base e i 1 ht hi v n xs hs hown c (hx.trans hv) (h v w (by simpa using hown) ⟨rfl, rfl, rfl, Nat.le_refl _, fun _ _ _ => rfl⟩)
    | some ad => exact wpList_append_own w hgd s x t ho base e i z 1 16 ht hi hz hsize hby hzs (by decide) v n xs hs hown ad 0 c [] (hx.trans hv) (by simp) (fun j u hj => by simp at hj) (fun u hu => by cases hu) h63 hbytes hbase fun v' w' h2 h3 _ => h v' w' (by simpa using h2) h3
  · exact wpList_append_own w hgd s x t ho base e i z 1 16 ht hi hz hsize hby hzs (by decide) v n xs hs hown ⟨b, off, none⟩ ls.length c (ls.map tx) (hx.trans hv) (by simp) (txs_row hc) (txs_one ls) h63 hbytes hbase fun v' w' h2 h3 _ => h v' w' h2 h3
end

set_option maxHeartbeats 16000000 in
set_option maxRecDepth 100000 in
theorem cutAll_core (v : Value) (l : List Ct.Stp) (cs0 : List Value) (w : World) (hs : Src w v l.length cs0) (hst : StpsM w cs0 l) (hsz : Ct.stepSizes l ≤ 4194304) (hl : l.length ≤ 4194304) (hw : GW w) :
    Calls Tryd.prog 5 #[v] w fun e w' => e = .returned (.bool true) ∧ Below w.heap.size w w' := by
  obtain ⟨i0, hi, hz0, hz1, hz2⟩ := info_parts info_txt
  have HS := Lib.hid hs
  have HT := Lib.hid hst
  have HW := Lib.hid hw
  obtain ⟨aa, ca, rfl⟩ : ∃ a c, v = .slice a l.length c := by
    rcases hs with ⟨rfl, h⟩ | ⟨ad, c, rfl, _⟩
    · exact ⟨_, _, by rw [h]⟩
    · exact ⟨_, _, rfl⟩
  by_cases h40 : 40 < l.length
  · clear hs hst hw hsz
    go_enter Tryd.func5, Tryd.ntmps5
    go_wp2_with fail
    refine (cshown _ HW.out).mono ?_
    rintro e w1 ⟨rfl, h1⟩
    have HB1 := Lib.hid h1
    clear h1
    go_wp2_with fail
    go_ret
    exact ⟨rfl, HB1.out⟩
  · have hwell := Ct.runs_well Ct.dig Ct.nxt l
    have hrow := Lib.hid (fun (k : Nat) (hk : k < l.length) => stps_row hs hst k hk)
    have htx := Ct.runs_texts Ct.dig Ct.nxt l
    have hfit := runs_blkfit l hsz (by omega)
    have hlen0 := Ct.fed_len l l.length
    rw [List.take_length] at hlen0
    have HFL := Lib.hid (fun k => Ct.fed_len l k)
    have HRA := Lib.hid (fun (w1 : World) (hb : Below w.heap.size w w1) => runs_any (.slice aa l.length ca) l cs0 w1 (HS.out.below hb) (HT.out.keep hb) hsz (by omega) (HW.out.below hb))
    obtain ⟨r, hr⟩ : ∃ r, Ct.runs Ct.dig Ct.nxt l = r := ⟨_, rfl⟩
    rw [hr] at hwell htx hfit HRA
    obtain ⟨⟨n, p, ls⟩, out⟩ := r
    simp only at htx hfit
    have hnum : n = (out.length : Int) := by
      have h := hwell.inv.number
      have h2 := hfit.1
      simp only at h
      rw [Ct.fold_nxt _ _ (by omega) (by omega)] at h
      simpa using h
    have hch := hwell.inv.chain
    have HGD := Lib.hid (show ∀ b ∈ out, Ct.good b from hwell.good)
    have HFT := Lib.hid hfit
    have HCH := Lib.hid (show Ct.chained Ct.dig Ct.nxt out 0 [] = true from hch)
    have hol : out.length ≤ 1099511627776 := hfit.1
    have htl : (Ct.texts out).length + ls.length ≤ 4194304 := by
      have := congrArg List.length htx
      rw [List.length_append] at this
      omega
    have HTOT := Lib.hid (show ∀ b ∈ out, Ct.total b.2.2 ≤ 4194304 from fun b hb => by
      have e1 := (Ct.texts_memS out b hb).1
      have e2 := congrArg Dg.sizes htx
      rw [Ct.sizes_app, Ct.sizes_flat] at e2
      have e3 := Ct.total_sizes (Ct.texts out)
      omega)
    have HTX := Lib.hid htx
    have t9 : (n == (out.length : Int)) = true := by rw [hnum]; exact beq_self_eq_true _
    clear hs hst hw hr hwell htx hfit hch hnum hlen0
    go_enter Tryd.func5, Tryd.ntmps5
    go_wp2_with fail
    refine (cshown _ HW.out).mono ?_
    rintro e w1 ⟨rfl, h1⟩
    have HB1 := Lib.hid h1
    clear h1
    go_wp2_with fail
    refine (HRA.out _ HB1.out).mono ?_
    rintro e w2 ⟨bv, uT, cd, rfl, ht1, ho1, hb1, h2⟩
    simp only at ht1 ho1 hb1
    obtain ⟨au, cu, rfl⟩ := ht1.len
    obtain ⟨ax, cx, rfl⟩ : ∃ a c, bv = .slice a out.length c := by
      rcases Src.own ho1 with ⟨rfl, h⟩ | ⟨ad, c, rfl, _⟩
      · exact ⟨_, _, by rw [h]⟩
      · exact ⟨_, _, rfl⟩
    have HB2 := Lib.hid (grow_trans HB1.out h2)
    have HBK := Lib.hid (show BlkAt w2 (.slice ax out.length cx) out from ⟨cd, FlatAt.own ho1, hb1.all (Nat.le_refl _)⟩)
    have HUT := Lib.hid ht1
    clear ht1 ho1 hb1 h2 HRA
    obtain ⟨wPa, hwPa⟩ : ∃ x, World.alloc w2 (.cells #[.int .i64 0, .string ⟨#[]⟩, .slice none 0 0] 24) = x := ⟨_, rfl⟩
    obtain ⟨Ha, hHa⟩ : ∃ x, (World.heap w2).size = x := ⟨_, rfl⟩
    have hPa : Below (World.heap w2).size w2 wPa := by rw [← hwPa]; exact (Below.refl _ _).alloc (Nat.le_refl _) _
    have kPa : KBox wPa Ha 24 (.int .i64 0) (.string ⟨#[]⟩) (.slice none 0 0) := by rw [← hwPa, ← hHa]; exact KBox.new _ _ _ _ _
    obtain ⟨p0a, p1a, p2a⟩ := kPa.cells
    obtain ⟨f0a, f1a, f2a⟩ := kPa.free
    obtain ⟨wQa, hwQa⟩ : ∃ x, World.setCell (World.setCell (World.setCell wPa ⟨Ha, 0, none⟩ (.int .i64 n)) ⟨Ha, 1, none⟩ (tx p)) ⟨Ha, 2, none⟩ (.slice au ls.length cu) = x := ⟨_, rfl⟩
    have hbQa : Below (World.heap w2).size w2 wQa := by rw [← hwQa]; exact below_set3 hPa (by omega) _ _ _
    have kQa : KBox wQa Ha 24 (.int .i64 n) (tx p) (.slice au ls.length cu) := by rw [← hwQa]; exact kPa.set _ _ _
    obtain ⟨q0a, q1a, q2a⟩ := kQa.cells
    have HBa := Lib.hid hbQa
    have HKa := Lib.hid kQa
    clear kPa hPa hbQa kQa
    have HBA := Lib.hid (grow_trans HB2.out HBa.out)
    go_wp2_with fail
    clear p0a p1a p2a f0a f1a f2a hwPa hwQa hHa
    go_loopw [6, 7] (fun f i wr => ∃ k : Nat, i = .int .i64 k ∧ k ≤ l.length ∧ wr.ownsRow wQa.heap.size 9 1 f ((l.take k).flatMap (·.1)).length (((l.take k).flatMap (·.1)).map tx) ∧ Below wQa.heap.size wQa wr) (fun _ i _ => l.length - (intOf i).toNat)
    case atStart => exact ⟨0, rfl, by omega, ⟨by simp, .inl ⟨rfl, by simp⟩⟩, Below.refl _ _⟩
    case round =>
      obtain ⟨k, rfl, hk, hown, hbr⟩ := hrel
      have HBR := Lib.hid hbr
      have HOW := Lib.hid hown
      clear hbr hown
      by_cases hlt : k < l.length
      · have hwk : IntKind.i64.wrap ((k : Int) + 1) = ((k + 1 : Nat) : Int) := by
          rw [IntWalk.i64_in _ ⟨by omega, by omega⟩]
          omega
        obtain ⟨b, off, cap, u, e, g1, g2, g3⟩ := hrow.out k hlt
        injection e with e1 _ e2
        subst e1 e2
        have hb0 := grow_trans HBA.out HBR.out
        have r1 := below_cell hb0 g1
        have hTk := g3.below hb0
        obtain ⟨ak, ck, rfl⟩ := hTk.len
        have hlk := HFL.out (k + 1)
        rw [Ct.fed_take l k hlt, List.length_append] at hlk
        have HTK := Lib.hid hTk
        have j1 : (k : Int) < (l.length : Int) := by omega
        have j2 : (0 : Int) ≤ (k : Int) := by omega
        have j3 : (k : Int).toNat = k := by omega
        clear g1 g2 g3 hb0 hTk
        go_wp2_with (at_builtin; refine append_tx rfl _ _ 22 rfl wQa.heap.size 9 i0 (.string ⟨#[]⟩) Tryd.underlying22 hi hz0 hz1 hz2 rfl _ _ _ rfl HOW.out _ l[k].1 rfl HTK.out (by unfold maxLen; omega) (by omega) HBR.out.size ?_; intro v5 w5 hown5 hg5; have HO5 := Lib.hid hown5; have HB5 := Lib.hid (HBR.out.grown hg5 HBR.out.size (fun k hk => (HOW.out.lt k hk).1)); clear hown5 hg5)
        go_roundw
        case rel => exact ⟨k + 1, by go_num, hlt, by rw [Ct.fed_take l k hlt, List.length_append, List.map_append]; exact HO5.out, HB5.out⟩
        case measure => simp [intOf]; omega
      · obtain rfl : k = l.length := by omega
        have hfed := TxAt.own (show wr.ownsRow wQa.heap.size 9 1 _ ((l.take l.length).flatMap (·.1)).length (((l.take l.length).flatMap (·.1)).map tx) from HOW.out)
        rw [List.take_length, ← HTX.out] at hfed
        have HFE := Lib.hid hfed
        clear hfed HOW
        obtain ⟨wo, rfl⟩ : ∃ wo : World, wo = wr := ⟨_, rfl⟩
        go_wp2_with fail
        have HB4 := Lib.hid (grow_trans HBA.out HBR.out)
        go_loopw [8, 9, 10, 11] (fun f i _ _ wr => ∃ k : Nat, i = .int .i64 k ∧ k ≤ out.length ∧ wr.ownsRow wo.heap.size 9 1 f (Ct.texts (out.take k)).length ((Ct.texts (out.take k)).map tx) ∧ Below wo.heap.size wo wr) (fun _ i _ _ _ => out.length - (intOf i).toNat)
        case atStart => exact ⟨0, rfl, by omega, ⟨by simp [Ct.texts], .inl ⟨rfl, by simp [Ct.texts]⟩⟩, Below.refl _ _⟩
        case round =>
          obtain ⟨k, rfl, hk, hown, hbr⟩ := hrel
          have HBR2 := Lib.hid hbr
          have HOW := Lib.hid hown
          clear hbr hown
          by_cases hlt : k < out.length
          · have hwk : IntKind.i64.wrap ((k : Int) + 1) = ((k + 1 : Nat) : Int) := by
              rw [IntWalk.i64_in _ ⟨by omega, by omega⟩]
              omega
            have hb0 := grow_trans HBa.out (grow_trans HBR.out HBR2.out)
            rcases HBK.out.cells with ⟨h, _⟩ | ⟨_, b, off, cap, e, hc⟩
            · rw [h] at hlt
              exact absurd hlt (by simp)
            injection e with e1 _ e2
            subst e1 e2
            obtain ⟨u, _, _, g2, g3⟩ := hc k hlt
            have r2 := below_cell hb0 g2
            have hTk := g3.below hb0
            have hgd := HGD.out out[k] (List.getElem_mem hlt)
            have htot := HTOT.out out[k] (List.getElem_mem hlt)
            have htt := Ct.texts_take out k hlt
            have htl2 := Ct.texts_len out (k + 1)
            rw [htt, List.length_append] at htl2
            obtain ⟨tk, htk⟩ : ∃ t, out[k].2.2 = t := ⟨_, rfl⟩
            have htk' : (out[k]'hlt).2.2 = tk := htk
            rw [Ct.good] at hgd
            rw [htk'] at hTk hgd htot htt htl2
            have HTT := Lib.hid htt
            obtain ⟨ak, ck, rfl⟩ := hTk.len
            obtain ⟨hg1, hg6, hg2⟩ := hgd
            obtain ⟨b2, off2, e5, hnc⟩ := TxAt.some hTk (by omega)
            subst e5
            have HTK := Lib.hid hTk
            have HNC := Lib.hid hnc
            have j1 : (k : Int) < (out.length : Int) := by omega
            have j2 : (0 : Int) ≤ (k : Int) := by omega
            have j3 : (k : Int).toNat = k := by omega
            have j4 : decide ((tk.length : Int) < 1) = false := by rw [decide_eq_false_iff_not]; omega
            have j5 : decide ((6 : Int) < (tk.length : Int)) = false := by rw [decide_eq_false_iff_not]; omega
            clear hc g2 g3 hb0 hTk hnc htk htk' htt
            go_wp2_with fail
            obtain ⟨wi, rfl⟩ : ∃ wi : World, wi = wr := ⟨_, rfl⟩
            go_loopw [10, 11] (fun s j wr => ∃ m : Nat, j = .int .i64 m ∧ m ≤ tk.length ∧ s = .int .i64 (Ct.total (tk.take m) : Nat) ∧ wr = wi) (fun _ j _ => tk.length - (intOf j).toNat)
            case atStart => exact ⟨0, rfl, by omega, by simp [Ct.total], rfl⟩
            case round =>
              obtain ⟨m, rfl, hm, rfl, rfl⟩ := hrel
              by_cases hmt : m < tk.length
              · have hwm : IntKind.i64.wrap ((m : Int) + 1) = ((m + 1 : Nat) : Int) := by
                  rw [IntWalk.i64_in _ ⟨by omega, by omega⟩]
                  omega
                have c1 := HNC.out m hmt
                have ht1 := Ct.total_take tk m hmt
                have ht2 := Ct.total_le tk (m + 1)
                obtain ⟨x, hx⟩ : ∃ x, tk[m] = x := ⟨_, rfl⟩
                rw [hx] at c1 ht1
                have hws : IntKind.i64.wrap (((Ct.total (tk.take m) : Nat) : Int) + (x.length : Int)) = ((Ct.total (tk.take (m + 1)) : Nat) : Int) := by
                  rw [IntWalk.i64_in _ ⟨by omega, by omega⟩]
                  omega
                have n1 : (m : Int) < (tk.length : Int) := by omega
                have n2 : (0 : Int) ≤ (m : Int) := by omega
                have n3 : (m : Int).toNat = m := by omega
                clear hx
                by_cases hbig : 1000 < x.length
                · have t5 : decide ((1000 : Int) < (x.length : Int)) = true := by rw [decide_eq_true_iff]; omega
                  go_wp2_with fail
                  go_ret
                  exact ⟨rfl, grow_trans HB4.out HBR2.out⟩
                · have t5 : decide ((1000 : Int) < (x.length : Int)) = false := by rw [decide_eq_false_iff_not]; omega
                  go_wp2_with fail
                  go_roundw
                  case rel => exact ⟨m + 1, by go_num, hmt, by first | rfl | trivial | go_num, by first | rfl | trivial⟩
                  case measure => simp [intOf]; omega
              · obtain rfl : m = tk.length := by omega
                rw [List.take_length]
                obtain ⟨T, hT⟩ : ∃ T, Ct.total tk = T := ⟨_, rfl⟩
                rw [hT] at hg2 htot
                rw [hT]
                have t7 : (decide ((128 : Int) < (T : Int)) = true ∧ decide ((1 : Int) < (tk.length : Int)) = false) ∨ decide ((128 : Int) < (T : Int)) = false := by
                  by_cases h : 128 < T
                  · exact .inl ⟨by rw [decide_eq_true_iff]; omega, by rw [decide_eq_false_iff_not]; omega⟩
                  · exact .inr (by rw [decide_eq_false_iff_not]; omega)
                clear hT
                rcases t7 with ⟨t7, t8⟩ | t7
                · go_wp2_with (at_builtin; refine append_tx rfl _ _ 22 rfl wo.heap.size 9 i0 (.string ⟨#[]⟩) Tryd.underlying22 hi hz0 hz1 hz2 rfl _ _ _ rfl HOW.out _ tk rfl HTK.out (by unfold maxLen; omega) (by omega) HBR2.out.size ?_; intro v5 w5 hown5 hg5; have HO5 := Lib.hid hown5; have HB5 := Lib.hid (HBR2.out.grown hg5 HBR2.out.size (fun k hk => (HOW.out.lt k hk).1)); clear hown5 hg5)
                  go_roundw
                  case rel => exact ⟨k + 1, by go_num, hlt, by rw [HTT.out, List.length_append, List.map_append]; exact HO5.out, HB5.out⟩
                  case measure => simp [intOf]; omega
                · go_wp2_with (at_builtin; refine append_tx rfl _ _ 22 rfl wo.heap.size 9 i0 (.string ⟨#[]⟩) Tryd.underlying22 hi hz0 hz1 hz2 rfl _ _ _ rfl HOW.out _ tk rfl HTK.out (by unfold maxLen; omega) (by omega) HBR2.out.size ?_; intro v5 w5 hown5 hg5; have HO5 := Lib.hid hown5; have HB5 := Lib.hid (HBR2.out.grown hg5 HBR2.out.size (fun k hk => (HOW.out.lt k hk).1)); clear hown5 hg5)
                  go_roundw
                  case rel => exact ⟨k + 1, by go_num, hlt, by rw [HTT.out, List.length_append, List.map_append]; exact HO5.out, HB5.out⟩
                  case measure => simp [intOf]; omega
          · obtain rfl : k = out.length := by omega
            rw [List.take_length] at HOW
            have hb0 := grow_trans HBR.out HBR2.out
            have HUT2 := Lib.hid ((HUT.out.below HBa.out).below hb0)
            obtain ⟨q0, q1, q2⟩ := (HKa.out.kept hb0).cells
            have HK2 := Lib.hid (HKa.out.kept hb0)
            clear q0a q1a q2a hb0
            go_wp2_with (at_builtin; refine append_tx rfl _ _ 22 rfl wo.heap.size 9 i0 (.string ⟨#[]⟩) Tryd.underlying22 hi hz0 hz1 hz2 rfl _ _ _ rfl HOW.out _ ls rfl HUT2.out (by unfold maxLen; omega) (by omega) HBR2.out.size ?_; intro v5 w5 hown5 hg5; have HO5 := Lib.hid hown5; have HB5 := Lib.hid (HBR2.out.grown hg5 HBR2.out.size (fun k hk => (HOW.out.lt k hk).1)); clear hown5 hg5)
            have htold := TxAt.own (n := (Ct.texts out).length + ls.length) (base := wo.heap.size) (t := 9) (ls := Ct.texts out ++ ls) (by rw [List.map_append]; exact HO5.out)
            have hfe2 := HFE.out.below HB5.out
            refine (rsame_self _ _ (Ct.texts out ++ ls) w5 htold hfe2 (by rw [List.length_append]; omega)).mono ?_
            rintro e w6 ⟨rfl, h6⟩
            have HB6 := Lib.hid (grow_trans HB5.out h6)
            have HB26 := Lib.hid (grow_trans HBa.out (grow_trans HBR.out HB6.out))
            have HCC := Lib.hid (rcchained (.slice ax out.length cx) out 0 [] w6 (HBK.out.below HB26.out) HFT.out)
            rw [HCH.out] at HCC
            clear htold hfe2 h6 q0 q1 q2
            go_wp2_with fail
            refine HCC.out.mono ?_
            rintro e w7 ⟨rfl, h7⟩
            have HB7 := Lib.hid (grow_trans HB6.out h7)
            have hb0 := grow_trans HBR.out HB7.out
            obtain ⟨q0, q1, q2⟩ := (HKa.out.kept hb0).cells
            clear hb0 h7
            go_wp2_with fail
            go_ret
            exact ⟨rfl, grow_trans HB4.out HB7.out⟩

theorem cutAll_walk {H : Type} (enc : TypeId × Value → H) (W : World) (base : Nat) (v0 : Value) (d0 : DataW H) (p0 : List MemPlace)
    (h0 : DataW.Trod enc Tryd.prog W 0 (fun _ => true) true 39 v0 d0 p0) (o0 : Value.okWide Tryd.prog W .any base 39 v0)
    (_hsz : (DataW.weightsEach Tryd.prog [39] [d0]).all (· ≤ reachBytes) = true) (hk : Rows.uptoSmall H [d0] = true) (hg : GW W) :
    Calls Tryd.prog 5 #[v0] W fun e W' => e = .returned (.bool true) ∧ Below W.heap.size W W' := by
  obtain ⟨aa, la, ca, rfl⟩ := okWide_slice Tryd.underlying39 o0
  obtain ⟨f0, h0⟩ := h0
  obtain ⟨l, cs0, s0, t0, b0, k0⟩ := trod_steps (y := (d0, p0)) h0
  have hb : Rows.uptoBulkAll [d0] ≤ 1048576 := of_decide_eq_true hk
  simp only [Rows.uptoBulkAll] at hb
  simp only [] at b0 k0
  exact cutAll_core _ l cs0 W s0 t0 (by omega) (by omega) hg
end Go.Proofs.YtldhkgelifmipaaDoor
