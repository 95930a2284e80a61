/- Feed, as the program has it: the walk. (Written by gen-cutfeedc.py.) -/
import Derived.Test.YtldhkgelifmipaaDoorCutFeedB
namespace Go.Proofs.YtldhkgelifmipaaDoor
open Go.RowKit
theorem KBox.ne {w : World} {g C : Nat} {t t' : TypeId} {a b c x y z : Value} (h : KBox w g t a b c) (k : KBox w C t' x y z) (hne : t ≠ t') : g ≠ C := by
  rintro rfl
  have e : w.heap[g]? = _ := h
  rw [show w.heap[g]? = _ from k] at e
  injection e with e
  injection e with _ e _
  exact hne e.symm

set_option maxHeartbeats 16000000 in
set_option maxRecDepth 100000 in
theorem pcfeedT (c : Ct.Blk) (txs : List (List UInt8)) (u v : Value) (w : World) (hu : TxAt w u c.2.2) (hv : TxAt w v txs) (hsz : Dg.sizes c.2.2 + Dg.sizes txs ≤ 400000000) (hp : c.2.1.length ≤ 1073741824) (hn : c.1 ≤ 9223372036854775807) (hw : GW w) :
    Calls Tryd.prog 11 #[blkV c u, v] w fun e w' => ∃ uT bv cs, e = .returned (.tuple #[blkV (Ct.feed Ct.dig Ct.nxt c txs).1 uT, bv]) ∧ TxAt w' uT (Ct.feed Ct.dig Ct.nxt c txs).1.2.2 ∧ w'.ownsRow w.heap.size 25 3 bv (Ct.feed Ct.dig Ct.nxt c txs).2.length cs ∧ BlksM 0 w'.heap.size w' cs (Ct.feed Ct.dig Ct.nxt c txs).2 ∧ Below w.heap.size w w' ∧ ∀ k, uT.ownBlock = some k → TyS w' k := by
  obtain ⟨i0, hi, hz0, hz1, hz2⟩ := info_parts info_txt
  obtain ⟨i1, gi, gz0, gz1, gz2⟩ := info_parts info_blk
  have hlt0 := Dg.sizes_len txs
  have hlc0 := Dg.sizes_len c.2.2
  have HTL := Lib.hid (show ∀ t ∈ txs, t.length ≤ 400000000 from fun t h => by have := Dg.sizes_le txs t h; omega)
  obtain ⟨X, X0, XE, XS, XF⟩ := Ct.feed_run c txs hsz hp hn
  have HXE := Lib.hid XE
  have HXS := Lib.hid XS
  have HXF := Lib.hid XF
  clear XE XS XF
  obtain ⟨n0, p0, l0⟩ := c
  simp only at hu hn hp hlc0 hsz
  have HX0 := Lib.hid X0
  clear X0
  obtain ⟨au, cu, rfl⟩ := hu.len
  obtain ⟨av, cv, rfl⟩ := hv.len
  obtain ⟨C, hC⟩ : ∃ C, w.heap.size = C := ⟨_, rfl⟩
  obtain ⟨R, hR⟩ : ∃ R, C + 1 = R := ⟨_, rfl⟩
  obtain ⟨w0, hw0⟩ : ∃ w0, (w.alloc (.cells #[iv n0, tx p0, .slice au l0.length cu] 24)).alloc (.cells #[.int .i64 0, .string ⟨#[]⟩, .slice none 0 0] 24) = w0 := ⟨_, rfl⟩
  have g0 : Below w.heap.size w w0 := by rw [← hw0]; exact ((Below.refl _ _).alloc (Nat.le_refl _) _).alloc (by simp) _
  have kc : KBox w0 C 24 (.int .i64 n0) (tx p0) (.slice au l0.length cu) := by
    rw [← hw0, ← hC]
    exact (KBox.new w 24 (.int .i64 n0) (tx p0) (.slice au l0.length cu)).alloc _
  have kr : KBox w0 R 24 (.int .i64 0) (.string ⟨#[]⟩) (.slice none 0 0) := by
    have h := KBox.new (w.alloc (.cells #[iv n0, tx p0, .slice au l0.length cu] 24)) 24 (.int .i64 0) (.string ⟨#[]⟩) (.slice none 0 0)
    have e : (w.alloc (.cells #[iv n0, tx p0, .slice au l0.length cu] 24)).heap.size = R := by simp; omega
    rw [e, hw0] at h
    exact h
  have hs0 : w0.heap.size = R + 1 := by rw [← hw0, ← hR, ← hC]; simp
  have HSZ := Lib.hid hs0
  clear hs0
  have HU := Lib.hid (hu.below g0)
  have HV := Lib.hid hv
  have HW := Lib.hid hw
  have HG0 := Lib.hid g0
  have HCR := Lib.hid (show C ≠ R ∧ w.heap.size ≤ C ∧ w.heap.size ≤ R by omega)
  obtain ⟨c0, c1, c2⟩ := kc.cells
  have hl0 : l0.length ≤ 400000000 := by omega
  have ht0 : txs.length ≤ 400000000 := by omega
  clear hu hv hw hp hn hsz g0 hlt0 hlc0
  go_enter Tryd.func11, Tryd.ntmps11
  go_wp2_with fail
  refine (csclone _ l0 _ HU.out (by omega)).mono ?_
  rintro e w1 ⟨uc, rfl, ho1, h1⟩
  obtain ⟨ua, ucc, rfl⟩ := own_slice ho1
  have kc1 := kc.kept h1
  have kr1 := kr.kept h1
  obtain ⟨d0, d1, d2⟩ := kc1.cells
  obtain ⟨y0, y1, y2⟩ := kc1.free
  obtain ⟨w2, hw2⟩ : ∃ x, w1.setCell ⟨C, 2, none⟩ (.slice ua l0.length ucc) = x := ⟨_, rfl⟩
  have HCF2 := Lib.hid (show CF 0 w w2 C R (n0, p0, l0) [] (.slice ua l0.length ucc) (.slice none 0 0) (R + 1) by
    have hq := HSZ.out
    have hr := HCR.out
    have hs1 := h1.size
    have ho := ho1
    rw [hq] at ho
    refine ⟨by rw [← hw2]; exact kc1.set2 (.slice ua l0.length ucc), ⟨_, _, _, by rw [← hw2]; exact kr1.other (Ne.symm hr.1) _ _⟩, by rw [← hw2]; exact ownsRow_setCell_below ho (by show C < R + 1; omega) (.slice ua l0.length ucc), ⟨[], World.ownsRow_nil _ _ _ _, trivial⟩, fun k hk => by simp [Value.ownBlock] at hk, ⟨by omega, by omega, by omega, by omega, by omega, ?_⟩, ?_⟩
    · rw [← hw2]
      simp only [World.setCell, Array.size_modify]
      omega
    · rw [← hw2]
      exact below_set (grow_trans HG0.out h1) hr.2.1 _ _)
  clear c0 c1 c2 kc kr kc1 kr1 HU HSZ h1 ho1 HG0 hw0
  go_wp2_with fail
  clear d0 d1 d2 y0 y1 y2 hw2 hC hR
  go_loopw [6, 8, 9, 10, 17] (fun bv x8 x9 x10 i wr => ∃ k : Nat, i = .int .i64 k ∧ k ≤ txs.length ∧ ∃ uT M, CF 0 w wr C R (X k).1 (X k).2 uT bv M) (fun _ _ _ _ i _ => txs.length - (intOf i).toNat)
  case atStart => exact ⟨0, rfl, by omega, (.slice ua l0.length ucc), R + 1, by rw [HX0.out]; exact HCF2.out⟩
  case round =>
    clear HCF2 HX0
    obtain ⟨k, rfl, hk, uT, M, hCF'⟩ := hrel
    have hfk := HXF.out k hk
    by_cases hlt : k < txs.length
    · obtain ⟨b, off, rfl, hc⟩ := TxAt.some HV.out (by omega)
      have c1 := below_cell hCF'.b (hc k hlt)
      have hst := HXS.out k hlt
      have htl := HTL.out txs[k] (List.getElem_mem hlt)
      obtain ⟨t, htt⟩ : ∃ t, txs[k] = t := ⟨_, rfl⟩
      rw [htt] at c1 hst htl
      obtain ⟨n, p, ls, out, hx⟩ : ∃ n p ls out, X k = ((n, p, ls), out) := ⟨_, _, _, _, rfl⟩
      rw [hx] at hCF' hst hfk
      simp only at hCF' hfk
      obtain ⟨uta, utc, hut⟩ := own_slice (show wr.ownsRow M 9 1 uT ls.length (ls.map tx) from hCF'.own)
      subst hut
      obtain ⟨hfs, hfp, h63, hol⟩ := hfk
      have hfit := fit_of (c := (n, p, ls)) hfs hfp
      have hll := Dg.sizes_len ls
      have htot := Ct.total_sizes ls
      have hl4 : ls.length ≤ 400000000 := by omega
      have hfc := pcfits (.slice uta ls.length utc) ls t wr (TxAt.own hCF'.own) (by omega) (by omega) (by omega)
      obtain ⟨e0, e1, e2⟩ := hCF'.kc.cells
      have hCF := Lib.hid hCF'
      have HFT := Lib.hid hfit
      clear hc hx htt hCF' hfs hfp htot HXF HXS HXE HTL hfit
      by_cases hf : Ct.fits ls t = true
      · have HX := Lib.hid (show X (k + 1) = ((n, p, ls ++ [t]), out) by rw [hst, Ct.step, if_pos hf])
        rw [hf] at hfc
        clear hst hf
        go_wp2_with fail
        refine hfc.mono ?_
        rintro e w5 ⟨rfl, h5⟩
        have hCF5 := Lib.hid (hCF.out.keep h5)
        obtain ⟨g0, g1, g2⟩ := hCF5.out.kc.cells
        have HO5 := Lib.hid (show w5.ownsRow M 9 1 (.slice uta ls.length utc) ls.length (ls.map tx) from hCF5.out.own)
        clear e0 e1 e2 hfc hCF h5 c1
        have HNW9 := Lib.hid (new_cells1 w5 t)
        go_wp2_with (at_builtin; refine wpList_append_own _ rfl _ _ 22 rfl M 9 i0 (.string ⟨#[]⟩) 1 16 Tryd.underlying22 hi hz0 hz1 hz2 rfl (by decide) _ _ _ rfl (HO5.out.alloc _) ⟨w5.heap.size, 0, none⟩ 1 1 [tx t] rfl rfl HNW9.out (by intro u hu; simp at hu; subst hu; rfl) (by unfold maxLen; omega) (by omega) (by have := hCF5.out.le; simp; omega) ?_)
        intro v9 w9 hown9 hg9 _
        obtain ⟨va9, vc9, hv9⟩ := own_slice hown9
        subst hv9
        have K9 := CF.k4 hCF5.out hg9
        have CF9 := CF.more hCF5.out (Nat.zero_le _) hown9 hg9
        obtain ⟨x0, x1, x2⟩ := K9.cells
        obtain ⟨y0, y1, y2⟩ := K9.free
        obtain ⟨wS9, hwS9⟩ : ∃ x, w9.setCell ⟨C, 2, none⟩ (.slice va9 (ls.length + 1) vc9) = x := ⟨_, rfl⟩
        rw [hwS9] at CF9
        have CFZ := Lib.hid CF9
        clear hown9 hg9 K9 HNW9 CF9
        go_wp2
        go_roundw
        case rel => exact ⟨k + 1, by go_num, hlt, _, _, by rw [HX.out]; exact CFZ.out⟩
        case measure => simp [intOf]; omega
      · have HX := Lib.hid (show X (k + 1) = ((Ct.nxt n, Ct.dig (n, p, ls), [t]), out ++ [(n, p, ls)]) by rw [hst, Ct.step, if_neg hf])
        have hne : ls ≠ [] := by
          intro e
          apply hf
          simp [Ct.fits, e]
        rw [show Ct.fits ls t = false by simpa using hf] at hfc
        have hfl := fun W hW hG => pcflush (n, p, ls) (.slice uta ls.length utc) W hW HFT.out h63 hne hG
        obtain ⟨m, hm⟩ : ∃ m, Ct.nxt n = m := ⟨_, rfl⟩
        obtain ⟨d, hd⟩ : ∃ d, Ct.dig (n, p, ls) = d := ⟨_, rfl⟩
        simp only [hm, hd] at hfl HX
        simp only [iv] at hfl
        have HFL := Lib.hid hfl
        clear hm hd hfl hst hf hne
        go_wp2_with fail
        refine hfc.mono ?_
        rintro e w5 ⟨rfl, h5⟩
        have hCF5 := hCF.out.keep h5
        obtain ⟨g0, g1, g2⟩ := hCF5.kc.cells
        clear e0 e1 e2 hfc hCF h5 c1
        go_wp2_with fail
        refine (HFL.out _ (TxAt.own hCF5.own) (HW.out.below hCF5.b)).mono ?_
        rintro e w6 ⟨g, uc, rfl, kg, ktx, kty, h6⟩
        have hCF6 := hCF5.keep h6
        have hone := Lib.hid (one_tx ktx)
        have ht := Lib.hid (TxM.ofT (B := 0) ktx kty)
        have CF6 := Lib.hid hCF6
        obtain ⟨cs, hrow, hcs'⟩ := hCF6.bs
        have hcs := Lib.hid hcs'
        obtain ⟨wP, hwP⟩ : ∃ x, World.alloc w6 (.cells #[.int .i64 0, .string ⟨#[]⟩, .slice none 0 0] 24) = x := ⟨_, rfl⟩
        obtain ⟨H, hH⟩ : ∃ x, (World.heap w6).size = x := ⟨_, rfl⟩
        have hP : Below (World.heap w6).size w6 wP := by rw [← hwP]; exact (Below.refl _ _).alloc (Nat.le_refl _) _
        have kP : KBox wP H 24 (.int .i64 0) (.string ⟨#[]⟩) (.slice none 0 0) := by rw [← hwP, ← hH]; exact KBox.new _ _ _ _ _
        obtain ⟨p0, p1, p2⟩ := kP.cells
        obtain ⟨f0, f1, f2⟩ := kP.free
        obtain ⟨wQ, hwQ⟩ : ∃ x, World.setCell (World.setCell (World.setCell wP ⟨H, 0, none⟩ (.int .i64 m)) ⟨H, 1, none⟩ (tx d)) ⟨H, 2, none⟩ (.slice none 0 0) = x := ⟨_, rfl⟩
        have hbQ : Below (World.heap w6).size w6 wQ := by rw [← hwQ]; exact below_set3 hP (by omega) _ _ _
        have kQ : KBox wQ H 24 (.int .i64 m) (tx d) (.slice none 0 0) := by rw [← hwQ]; exact kP.set _ _ _
        have MQ := (Mid.start hCF6 hrow hbQ kQ (by omega) (Nat.zero_le _)).drew
        have kgQ : KBox (World.drew wQ) g 25 (.int .i64 n) (tx p) uc := (kg.kept hbQ).drew
        have hgC : g ≠ C := KBox.ne kg hCF6.kc (by decide)
        clear kP hP hCF5 h6 kg ktx kty hrow hcs' hbQ kQ hCF6 g0 g1 g2 HFL
        go_upto_region 8 with fail
        clear p0 p1 p2 f0 f1 f2
        refine wp_region_held_drew (S := (fun w' : World => w'.cell? ⟨H, 0, none⟩ = some (.int .i64 m) ∧ w'.cell? ⟨H, 1, none⟩ = some (tx d) ∧ w'.cell? ⟨H, 2, none⟩ = some (.slice none 0 0))) (by kernel_rfl) ?_ (fun hHeld => ?_)
        · exact ⟨MQ.kh.cells.1, MQ.kh.cells.2.1, MQ.kh.cells.2.2⟩
        refine takeW (i := 0) (v := ?_) rfl (by kernel_rfl) (by kernel_rfl) (by kernel_rfl) (fun _ _ _ h => h) (by rfl) ?_ (by assumption) ?_
        rotate_left
        focus (intro w hSw; (try dsimp only at hSw); go_simp; try (with_reducible rfl))
        simp only [Act.put, List.setIfInBounds_toArray, List.set_cons_zero, List.set_cons_succ]
        refine takeW (i := 1) (v := ?_) rfl (by kernel_rfl) (by kernel_rfl) (by kernel_rfl) (fun _ _ _ h => h) (by rfl) ?_ (by assumption) ?_
        rotate_left
        focus (intro w hSw; (try dsimp only at hSw); go_simp; try (with_reducible rfl))
        simp only [Act.put, List.setIfInBounds_toArray, List.set_cons_zero, List.set_cons_succ]
        refine takeW (i := 2) (v := ?_) rfl (by kernel_rfl) (by kernel_rfl) (by kernel_rfl) (fun _ _ _ h => h) (by rfl) ?_ (by assumption) ?_
        rotate_left
        focus (intro w hSw; (try dsimp only at hSw); go_simp; try (with_reducible rfl))
        simp only [Act.put, List.setIfInBounds_toArray, List.set_cons_zero, List.set_cons_succ]
        refine readyOne (i := 3) (by kernel_rfl) rfl (fun K hK => ?_)
        rw [if_pos (by rfl)]
        refine wp_append_own _ (.tmp 32) (.tmp 33) 29 rfl w.heap.size 25 i1 (.agg #[.int .i64 0, .string ⟨#[]⟩, .slice none 0 0]) 3 48 Tryd.underlying29 gi gz0 gz1 gz2 rfl (by decide) _ out.length cs rfl MQ.ro ⟨g, 0, none⟩ 1 1 [.int .i64 n, tx p, uc] rfl rfl (kbox_row kgQ) (kbox_one uc hone.out) (by unfold maxLen; omega) (by omega) (by have := MQ.bl.size; omega) ?_
        intro v7 w7 hown7 hg7 _
        have M7 := MQ.row hown7 hg7
        clear hown7 hg7
        refine hK.out _ _ ?_ (fun hHeld => ?_)
        · exact ⟨M7.kh.cells.1, M7.kh.cells.2.1, M7.kh.cells.2.2⟩
        clear hK K
        refine readyOne (i := 4) (by kernel_rfl) rfl (fun K hK => ?_)
        obtain ⟨w8, hw8⟩ : ∃ x, World.setCell (World.setCell (World.setCell w7 ⟨C, 0, none⟩ (.int .i64 m)) ⟨C, 1, none⟩ (tx d)) ⟨C, 2, none⟩ (.slice none 0 0) = x := ⟨_, rfl⟩
        have M8 := M7.put (.int .i64 m) (tx d) (.slice none 0 0)
        rw [hw8] at M8
        obtain ⟨q0, q1, q2⟩ := M7.kc.cells
        obtain ⟨y0, y1, y2⟩ := M7.kc.free
        go_simp
        refine hK.out _ _ ?_ (fun hHeld => ?_)
        · exact ⟨M8.kh.cells.1, M8.kh.cells.2.1, M8.kh.cells.2.2⟩
        clear hK K
        refine takeW (i := 5) (v := ?_) rfl (by kernel_rfl) (by kernel_rfl) (by kernel_rfl) (fun _ _ _ h => h) (by rfl) ?_ (by assumption) ?_
        rotate_left
        focus (intro w hSw; (try dsimp only at hSw); go_simp; try (with_reducible rfl))
        simp only [Act.put, List.setIfInBounds_toArray, List.set_cons_zero, List.set_cons_succ]
        refine wpAnyH_done (by kernel_rfl) ?_ _
        have CF8' := Mid.end CF6.out hcs.out ht.out M8
        have CF8 := Lib.hid CF8'
        obtain ⟨s0, s1, s2⟩ := CF8'.kc.cells
        have HO8 := Lib.hid (show w8.ownsRow w8.heap.size 9 1 (.slice none 0 0) 0 [] from CF8'.own)
        clear CF8' M7 M8
        clear hone
        have HNW9 := Lib.hid (new_cells1 w8 t)
        go_wp2_with (at_builtin; refine wpList_append_own _ rfl _ _ 22 rfl w8.heap.size 9 i0 (.string ⟨#[]⟩) 1 16 Tryd.underlying22 hi hz0 hz1 hz2 rfl (by decide) _ _ _ rfl (HO8.out.alloc _) ⟨w8.heap.size, 0, none⟩ 1 1 [tx t] rfl rfl HNW9.out (by intro u hu; simp at hu; subst hu; rfl) (by unfold maxLen; omega) (by omega) (by simp) ?_)
        intro v9 w9 hown9 hg9 _
        obtain ⟨va9, vc9, hv9⟩ := own_slice hown9
        subst hv9
        have K9 := CF.k4 CF8.out hg9
        have CF9 := CF.more CF8.out (Nat.zero_le _) hown9 hg9
        obtain ⟨x0, x1, x2⟩ := K9.cells
        obtain ⟨y0, y1, y2⟩ := K9.free
        obtain ⟨wS9, hwS9⟩ : ∃ x, w9.setCell ⟨C, 2, none⟩ (.slice va9 (0 + 1) vc9) = x := ⟨_, rfl⟩
        rw [hwS9] at CF9
        have CFZ := Lib.hid CF9
        clear hown9 hg9 K9 HNW9 CF9
        go_wp2
        go_roundw
        case rel => exact ⟨k + 1, by go_num, hlt, _, _, by rw [HX.out]; exact CFZ.out⟩
        case measure => simp [intOf]; omega
    · obtain rfl : k = txs.length := by omega
      rw [HXE.out] at hCF'
      obtain ⟨n, p, ls, out, hx⟩ : ∃ n p ls out, Ct.feed Ct.dig Ct.nxt (n0, p0, l0) txs = ((n, p, ls), out) := ⟨_, _, _, _, rfl⟩
      rw [hx] at hCF'
      have HXX := Lib.hid hx
      obtain ⟨uta, utc, hut⟩ := own_slice (show wr.ownsRow M 9 1 uT ls.length (ls.map tx) from hCF'.own)
      subst hut
      have HCF := Lib.hid hCF'
      obtain ⟨e0, e1, e2⟩ := hCF'.kc.cells
      obtain ⟨a', b', d', kr'⟩ := hCF'.kr
      obtain ⟨r0, r1, r2⟩ := kr'.cells
      obtain ⟨y0, y1, y2⟩ := kr'.free
      obtain ⟨wE, hwE⟩ : ∃ x, World.setCell (World.setCell (World.setCell wr ⟨R, 0, none⟩ (.int .i64 n)) ⟨R, 1, none⟩ (tx p)) ⟨R, 2, none⟩ (.slice uta ls.length utc) = x := ⟨_, rfl⟩
      have kE : KBox wE R 24 (.int .i64 n) (tx p) (.slice uta ls.length utc) := by rw [← hwE]; exact kr'.set _ _ _
      obtain ⟨q0, q1, q2⟩ := kE.cells
      have HE := Lib.hid (CF.done HCF.out kr' hwE)
      clear hCF' kr' kE hfk HXS HXF HXE HTL HV hx
      go_wp2_with fail
      refine bodyPost_ret (v := .tuple #[.agg #[.int .i64 n, tx p, (.slice uta ls.length utc)], u6]) (by simp [results, Tryd.results11, go_sem, q0, q1, q2]) rfl ?_
      obtain ⟨cs, h1, h2, h3, h4⟩ := HE.out
      rw [HXX.out]
      exact ⟨(.slice uta ls.length utc), u6, rfl, h1, cs, h2, h3, h4⟩
theorem pcfeed (c : Ct.Blk) (txs : List (List UInt8)) (u v : Value) (w : World) (hu : TxAt w u c.2.2) (hv : TxAt w v txs) (hsz : Dg.sizes c.2.2 + Dg.sizes txs ≤ 400000000) (hp : c.2.1.length ≤ 1073741824) (hn : c.1 ≤ 9223372036854775807) (hw : GW w) :
    Calls Tryd.prog 11 #[blkV c u, v] w fun e w' => ∃ uT bv cs, e = .returned (.tuple #[blkV (Ct.feed Ct.dig Ct.nxt c txs).1 uT, bv]) ∧ TxAt w' uT (Ct.feed Ct.dig Ct.nxt c txs).1.2.2 ∧ w'.ownsRow w.heap.size 25 3 bv (Ct.feed Ct.dig Ct.nxt c txs).2.length cs ∧ BlksM 0 w'.heap.size w' cs (Ct.feed Ct.dig Ct.nxt c txs).2 ∧ Below w.heap.size w w' :=
  (pcfeedT c txs u v w hu hv hsz hp hn hw).mono fun _ _ ⟨uT, bv, cs, h1, h2, h3, h4, h5, _⟩ => ⟨uT, bv, cs, h1, h2, h3, h4, h5⟩
end Go.Proofs.YtldhkgelifmipaaDoor
