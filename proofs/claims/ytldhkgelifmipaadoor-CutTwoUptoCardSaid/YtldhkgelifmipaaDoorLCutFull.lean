/- CutFull. (Written by gen-lcutfull.py.) -/
import Derived.Test.YtldhkgelifmipaaDoorCutShown
import Derived.Test.YtldhkgelifmipaaDoorKeep
namespace Ct
structure Full (x : Blk × List Blk) : Prop where
  mid : ∀ i (h : i + 1 < x.2.length), ∃ t r, x.2[i + 1].2.2 = t :: r ∧ fits (x.2[i]'(by omega)).2.2 t = false
  last : ∀ i (h : i < x.2.length), i + 1 = x.2.length → ∃ t r, x.1.2.2 = t :: r ∧ fits x.2[i].2.2 t = false
theorem Full.step (D : Blk → Tx) (N : Int → Int) {x : Blk × List Blk} (h : Full x) (t : Tx) : Full (step D N x t) := by
  rw [Ct.step]
  split
  · refine ⟨h.mid, fun i hi he => ?_⟩
    obtain ⟨t', r, h1, h2⟩ := h.last i hi he
    exact ⟨t', r ++ [t], by show x.1.2.2 ++ [t] = _; rw [h1]; rfl, h2⟩
  · rename_i hf
    refine ⟨fun i hi => ?_, fun i hi he => ?_⟩
    · simp only [List.length_append, List.length_singleton] at hi
      by_cases h1 : i + 1 < x.2.length
      · obtain ⟨t', r, h2, h3⟩ := h.mid i h1
        refine ⟨t', r, ?_, ?_⟩
        · simp only [List.getElem_append_left h1]
          exact h2
        · simp only [List.getElem_append_left (show i < x.2.length by omega)]
          exact h3
      · obtain ⟨t', r, h2, h3⟩ := h.last i (by omega) (by omega)
        refine ⟨t', r, ?_, ?_⟩
        · simp only [List.getElem_append_right (show x.2.length ≤ i + 1 by omega)]
          simpa using h2
        · simp only [List.getElem_append_left (show i < x.2.length by omega)]
          exact h3
    · simp only [List.length_append, List.length_singleton] at hi he
      refine ⟨t, [], rfl, ?_⟩
      simp only [List.getElem_append_right (show x.2.length ≤ i by omega)]
      simpa using hf
theorem full_feed (D : Blk → Tx) (N : Int → Int) (c : Blk) (l : List Tx) : Full (feed D N c l) := by
  have key : ∀ k, k ≤ l.length → Full (feed D N c (l.take k)) := by
    intro k
    induction k with
    | zero => exact fun _ => ⟨fun i h => absurd h (by simp [feed]), fun i h => absurd h (by simp [feed])⟩
    | succ k ih =>
      intro hk
      rw [feed_step D N c l k (by omega)]
      exact (ih (by omega)).step D N _
  have := key l.length (Nat.le_refl _)
  rw [List.take_length] at this
  exact this
theorem texts_mem (bs : List Blk) (b : Blk) (h : b ∈ bs) : total b.2.2 ≤ total (texts bs) ∧ b.2.2.length ≤ (texts bs).length := by
  induction bs with
  | nil => cases h
  | cons x bs ih =>
    have e : texts (x :: bs) = x.2.2 ++ texts bs := by simp [texts]
    rw [e, total_app, List.length_append]
    rcases List.mem_cons.1 h with rfl | h
    · omega
    · have := ih h
      omega
end Ct
namespace Go.Proofs.YtldhkgelifmipaaDoor
open Go.RowKit Go.ChangeShapes Go.WideShapes Go.ChangeAt

set_option maxHeartbeats 8000000 in
set_option maxRecDepth 100000 in
theorem cutFull_core (txs : List (List UInt8)) (v : Value) (w : World) (hv : TxAt w v txs) (hsz : Dg.sizes txs ≤ 1048576) (hw : GW w) :
    Calls Tryd.prog 6 #[v] w fun e w' => e = .returned (.bool true) ∧ Below w.heap.size w w' := by
  obtain ⟨av, cv, rfl⟩ := hv.len
  have hlt0 := Dg.sizes_len txs
  have htt0 := Ct.total_sizes txs
  have hlen : txs.length ≤ 1048576 := by omega
  have HV := Lib.hid hv
  have HW := Lib.hid hw
  have HSZ := Lib.hid hsz
  clear hv hw
  by_cases h300 : 300 < txs.length
  · clear hsz hlt0 htt0
    go_enter Tryd.func6, Tryd.ntmps6
    go_wp2_with fail
    refine (cshown _ HW.out).mono ?_
    rintro e w1 ⟨rfl, h1⟩
    go_wp2_with fail
    go_ret
    exact ⟨rfl, h1⟩
  · have hfull := Ct.full_feed Ct.dig Ct.nxt (0, [], []) txs
    have htx := Ct.feed_texts Ct.dig Ct.nxt (0, [], []) txs
    have hfl := (Ct.feed_len Ct.dig Ct.nxt (0, [], []) txs txs.length (Nat.le_refl _)).1
    rw [List.take_length] at hfl
    have hfd := fun (W : World) (hv : TxAt W (.slice av txs.length cv) txs) hG => pcfeed (0, [], []) txs (.slice none 0 0) (.slice av txs.length cv) W (.inl ⟨_, _, rfl, rfl⟩) hv (by show Dg.sizes [] + _ ≤ _; simp only [Dg.sizes]; omega) (by show 0 ≤ 1073741824; omega) (by show (0 : Int) ≤ _; omega) hG
    obtain ⟨n, p, ls, out, hx⟩ : ∃ n p ls out, Ct.feed Ct.dig Ct.nxt (0, [], []) txs = ((n, p, ls), out) := ⟨_, _, _, _, rfl⟩
    rw [hx] at hfull htx hfl hfd
    simp only at htx hfl hfd
    have htot : Ct.total (Ct.texts out) + Ct.total ls ≤ 1048576 := by rw [← Ct.total_app, htx]; simpa using by omega
    have hlns : (Ct.texts out).length + ls.length ≤ 1048576 := by rw [← List.length_append, htx]; simpa using hlen
    have HBM := Lib.hid (fun (k : Nat) (h : k < out.length) => show Ct.total out[k].2.2 ≤ 1048576 ∧ out[k].2.2.length ≤ 1048576 from by have := Ct.texts_mem out out[k] (List.getElem_mem h); omega)
    have HFU := Lib.hid hfull
    have HFD := Lib.hid hfd
    have hlt1 : ∀ t ∈ ls, t.length ≤ 1048576 := fun t h => by have := Ct.total_mem ls t h; omega
    have HLT := Lib.hid hlt1
    clear hx hfull htx hfd htot hlns hsz hlt0 htt0 hlt1
    simp only [blkV, iv] at HFD
    go_enter Tryd.func6, Tryd.ntmps6
    go_wp2_with fail
    refine (cshown _ HW.out).mono ?_
    rintro e w1 ⟨rfl, h1⟩
    go_wp2_with fail
    refine (HFD.out _ (HV.out.below h1) (HW.out.below h1)).mono ?_
    rintro e w2 ⟨uT, bv, cs, rfl, hu, hrow, hbs, h2⟩
    obtain ⟨ua, uc, rfl⟩ := hu.len
    have hblk : BlkAt w2 bv out := ⟨cs, FlatAt.own hrow, hbs.all (Nat.le_refl _)⟩
    obtain ⟨ba, bc, rfl⟩ := hblk.len
    have HB2 := Lib.hid (grow_trans h1 h2)
    have HU := Lib.hid hu
    have HBK := Lib.hid hblk
    clear hu hrow hbs h1 h2 hblk HFD
    obtain ⟨wP, hwP⟩ : ∃ x, World.alloc w2 (.cells #[.int .i64 0, .string ⟨#[]⟩, .slice none 0 0] 24) = x := ⟨_, rfl⟩
    obtain ⟨H, hH⟩ : ∃ x, (World.heap w2).size = x := ⟨_, rfl⟩
    have hP : Below (World.heap w2).size w2 wP := by rw [← hwP]; exact (Below.refl _ _).alloc (Nat.le_refl _) _
    have kP : KBox wP H 24 (.int .i64 0) (.string ⟨#[]⟩) (.slice none 0 0) := by rw [← hwP, ← hH]; exact KBox.new _ _ _ _ _
    obtain ⟨p0, p1, p2⟩ := kP.cells
    obtain ⟨f0, f1, f2⟩ := kP.free
    obtain ⟨wQ, hwQ⟩ : ∃ x, World.setCell (World.setCell (World.setCell wP ⟨H, 0, none⟩ (.int .i64 n)) ⟨H, 1, none⟩ (tx p)) ⟨H, 2, none⟩ (.slice ua ls.length uc) = x := ⟨_, rfl⟩
    have hbQ : Below (World.heap w2).size w2 wQ := by rw [← hwQ]; exact below_set3 hP (by omega) _ _ _
    have kQ : KBox wQ H 24 (.int .i64 n) (tx p) (.slice ua ls.length uc) := by rw [← hwQ]; exact kP.set _ _ _
    obtain ⟨q0, q1, q2⟩ := kQ.cells
    have HBQ := Lib.hid hbQ
    clear kP hP hbQ
    have HKQ := Lib.hid kQ
    clear kQ
    go_wp2_with fail
    clear p0 p1 p2 f0 f1 f2 q0 q1 q2 hwP hwQ hH
    go_loopw [6, 7] (fun i nx wr => ∃ k : Nat, i = .int .i64 k ∧ k ≤ out.length ∧ Below wQ.heap.size wQ wr) (fun i _ _ => out.length - (intOf i).toNat)
    case atStart => exact ⟨0, rfl, by omega, Below.refl _ _⟩
    case round =>
      obtain ⟨k, rfl, hk, hbr⟩ := hrel
      have HBR := Lib.hid hbr
      by_cases hlt : k < out.length
      · have hwk : IntKind.i64.wrap ((k : Int) + 1) = ((k + 1 : Nat) : Int) := by
          rw [IntWalk.i64_in _ ⟨by omega, by omega⟩]
          omega
        have kQ' := HKQ.out.kept hbr
        obtain ⟨q0, q1, q2⟩ := kQ'.cells
        rcases HBK.out.cells with ⟨h, _⟩ | ⟨_, b, off, cap, e, hc⟩
        · rw [h] at hlt
          exact absurd hlt (by simp)
        injection e with e1 _ e2
        subst e1 e2
        have hb2r := grow_trans HBQ.out hbr
        obtain ⟨uk, _, _, g2, g3⟩ := hc k hlt
        obtain ⟨ak, ck, rfl⟩ := g3.len
        have r2 := below_cell hb2r g2
        have hTk := g3.below hb2r
        obtain ⟨lk, hlk⟩ : ∃ lk, out[k].2.2.length = lk := ⟨_, rfl⟩
        have hbk := HBM.out k hlt
        have j1 : (k : Int) < (out.length : Int) := by omega
        have j2 : (0 : Int) ≤ (k : Int) := by omega
        have j3 : (k : Int).toNat = k := by omega
        by_cases hl1 : k + 1 < out.length
        · obtain ⟨t, r, e4, hff⟩ := HFU.out.mid k hl1
          obtain ⟨un, _, _, m2, m3⟩ := hc (k + 1) hl1
          obtain ⟨an, cn, rfl⟩ := m3.len
          have s2 := below_cell hb2r m2
          have hTn := m3.below hb2r
          have htl : t.length ≤ 1048576 := by
            have h1 := Ct.total_mem out[k + 1].2.2 t (by rw [e4]; simp)
            have := HBM.out (k + 1) hl1
            omega
          obtain ⟨ln, hln⟩ : ∃ ln, out[k + 1].2.2.length = ln := ⟨_, rfl⟩
          have hln0 : 0 < ln := by rw [← hln, show out[k + 1].2.2 = t :: r from e4]; simp
          obtain ⟨bn, offn, e5, hnc⟩ := TxAt.some hTn (by rw [hln]; exact hln0)
          subst e5
          have n1 : wr.cell? ⟨bn, offn, none⟩ = some (tx t) := by
            have h := hnc 0 (by rw [hln]; exact hln0)
            simpa [show out[k + 1].2.2 = t :: r from e4] using h
          have hfit := Lib.hid (fun W (hb : Below wr.heap.size wr W) => pcfits _ _ t W (hTk.below hb) (by omega) (by omega) (by omega))
          rw [hff] at hfit
          simp only [hlk] at hfit r2
          try simp only [hln] at s2
          have hS : (fun w' : World => w'.cell? ⟨b, off + k * 3 + 2, none⟩ = some (.slice ak lk ck) ∧ w'.cell? ⟨bn, offn, none⟩ = some (tx t) ∧ Below wr.heap.size wr w') wr := ⟨r2, n1, Below.refl _ _⟩
          have hkp := Lib.hid (show ∀ A1 A2 : World, (fun w' : World => w'.cell? ⟨b, off + k * 3 + 2, none⟩ = some (.slice ak lk ck) ∧ w'.cell? ⟨bn, offn, none⟩ = some (tx t) ∧ Below wr.heap.size wr w') A1 → Below A1.heap.size A1 A2 → (fun w' : World => w'.cell? ⟨b, off + k * 3 + 2, none⟩ = some (.slice ak lk ck) ∧ w'.cell? ⟨bn, offn, none⟩ = some (tx t) ∧ Below wr.heap.size wr w') A2 from fun A1 A2 ⟨k0, k1, kb⟩ h => ⟨below_cell h k0, below_cell h k1, grow_trans kb h⟩)
          have i1 : (0 : Int) < (ln : Int) := by omega
          have i2 : ((ln : Int) == 0) = false := by rw [beq_eq_false_iff_ne]; omega
          clear hc g2 g3 hb2r hTk hbk hlk hff hTn hnc e4 htl hln HBM HFU HLT HBK HU m2 m3
          go_wp2_with fail
          go_region_held3 (fun w' : World => w'.cell? ⟨b, off + k * 3 + 2, none⟩ = some (.slice ak lk ck) ∧ w'.cell? ⟨bn, offn, none⟩ = some (tx t) ∧ Below wr.heap.size wr w')
            (first | assumption | exact hkp.out _ _ hS (Below.drew (Below.refl _ _)))
            (first
              | (go_at_call 19; refine (keepB (fun w' : World => w'.cell? ⟨b, off + k * 3 + 2, none⟩ = some (.slice ak lk ck) ∧ w'.cell? ⟨bn, offn, none⟩ = some (tx t) ∧ Below wr.heap.size wr w') hkp.out (hfit.out _ (show (fun w' : World => w'.cell? ⟨b, off + k * 3 + 2, none⟩ = some (.slice ak lk ck) ∧ w'.cell? ⟨bn, offn, none⟩ = some (tx t) ∧ Below wr.heap.size wr w') _ by assumption).2.2) (by assumption)).mono ?_; rintro e w9 ⟨rfl, kS⟩))
          have HB9 := Lib.hid (grow_trans hbr (show (fun w' : World => w'.cell? ⟨b, off + k * 3 + 2, none⟩ = some (.slice ak lk ck) ∧ w'.cell? ⟨bn, offn, none⟩ = some (tx t) ∧ Below wr.heap.size wr w') _ by assumption).2.2)
          clear hS hkp hfit HBR hbr r2 n1
          go_wp2
          go_roundw
          case rel => exact ⟨k + 1, by go_num, hlt, HB9.out⟩
          case measure => simp [intOf]; omega
        · obtain ⟨t, r, e4, hff⟩ := HFU.out.last k hlt (by show k + 1 = out.length; omega)
          have hTn := (HU.out.below HBQ.out).below hbr
          obtain ⟨an, han⟩ : ∃ an, ua = an := ⟨_, rfl⟩
          obtain ⟨cn, hcn⟩ : ∃ cn, uc = cn := ⟨_, rfl⟩
          have htl : t.length ≤ 1048576 := HLT.out t (by rw [show ls = t :: r from e4]; simp)
          obtain ⟨ln, hln⟩ : ∃ ln, ls.length = ln := ⟨_, rfl⟩
          rw [han, hcn] at hTn
          simp only [han, hcn, hln] at q2 ⊢
          clear han hcn
          have hln0 : 0 < ln := by rw [← hln, show ls = t :: r from e4]; simp
          obtain ⟨bn, offn, e5, hnc⟩ := TxAt.some hTn (by rw [hln]; exact hln0)
          subst e5
          have n1 : wr.cell? ⟨bn, offn, none⟩ = some (tx t) := by
            have h := hnc 0 (by rw [hln]; exact hln0)
            simpa [show ls = t :: r from e4] using h
          have hfit := Lib.hid (fun W (hb : Below wr.heap.size wr W) => pcfits _ _ t W (hTk.below hb) (by omega) (by omega) (by omega))
          rw [hff] at hfit
          simp only [hlk] at hfit r2
          have hS : (fun w' : World => w'.cell? ⟨b, off + k * 3 + 2, none⟩ = some (.slice ak lk ck) ∧ w'.cell? ⟨bn, offn, none⟩ = some (tx t) ∧ Below wr.heap.size wr w') wr := ⟨r2, n1, Below.refl _ _⟩
          have hkp := Lib.hid (show ∀ A1 A2 : World, (fun w' : World => w'.cell? ⟨b, off + k * 3 + 2, none⟩ = some (.slice ak lk ck) ∧ w'.cell? ⟨bn, offn, none⟩ = some (tx t) ∧ Below wr.heap.size wr w') A1 → Below A1.heap.size A1 A2 → (fun w' : World => w'.cell? ⟨b, off + k * 3 + 2, none⟩ = some (.slice ak lk ck) ∧ w'.cell? ⟨bn, offn, none⟩ = some (tx t) ∧ Below wr.heap.size wr w') A2 from fun A1 A2 ⟨k0, k1, kb⟩ h => ⟨below_cell h k0, below_cell h k1, grow_trans kb h⟩)
          have i1 : (0 : Int) < (ln : Int) := by omega
          have i2 : ((ln : Int) == 0) = false := by rw [beq_eq_false_iff_ne]; omega
          clear hc g2 g3 hb2r hTk hbk hlk hff hTn hnc e4 htl hln HBM HFU HLT HBK HU 
          go_wp2_with fail
          go_region_held3 (fun w' : World => w'.cell? ⟨b, off + k * 3 + 2, none⟩ = some (.slice ak lk ck) ∧ w'.cell? ⟨bn, offn, none⟩ = some (tx t) ∧ Below wr.heap.size wr w')
            (first | assumption | exact hkp.out _ _ hS (Below.drew (Below.refl _ _)))
            (first
              | (go_at_call 19; refine (keepB (fun w' : World => w'.cell? ⟨b, off + k * 3 + 2, none⟩ = some (.slice ak lk ck) ∧ w'.cell? ⟨bn, offn, none⟩ = some (tx t) ∧ Below wr.heap.size wr w') hkp.out (hfit.out _ (show (fun w' : World => w'.cell? ⟨b, off + k * 3 + 2, none⟩ = some (.slice ak lk ck) ∧ w'.cell? ⟨bn, offn, none⟩ = some (tx t) ∧ Below wr.heap.size wr w') _ by assumption).2.2) (by assumption)).mono ?_; rintro e w9 ⟨rfl, kS⟩))
          have HB9 := Lib.hid (grow_trans hbr (show (fun w' : World => w'.cell? ⟨b, off + k * 3 + 2, none⟩ = some (.slice ak lk ck) ∧ w'.cell? ⟨bn, offn, none⟩ = some (tx t) ∧ Below wr.heap.size wr w') _ by assumption).2.2)
          clear hS hkp hfit HBR hbr r2 n1
          go_wp2
          go_roundw
          case rel => exact ⟨k + 1, by go_num, hlt, HB9.out⟩
          case measure => simp [intOf]; omega
      · obtain rfl : k = out.length := by omega
        go_wp2_with fail
        go_ret
        exact ⟨rfl, grow_trans (grow_trans HB2.out HBQ.out) hbr⟩
theorem cutFull_walk {H : Type} (enc : TypeId × Value → H) (W : World) (base : Nat) (v0 : Value) (d0 : DataW H) (p0 : List MemPlace)
    (h0 : DataW.Trod enc Tryd.prog W 0 (fun _ => true) true 22 v0 d0 p0) (o0 : Value.okWide Tryd.prog W .any base 22 v0)
    (_hsz : (DataW.weightsEach Tryd.prog [22] [d0]).all (· ≤ reachBytes) = true) (hk : Rows.uptoSmall H [d0] = true) (hg : GW W) :
    Calls Tryd.prog 6 #[v0] W fun e W' => e = .returned (.bool true) ∧ Below W.heap.size W W' := by
  obtain ⟨aa, la, ca, rfl⟩ := okWide_slice Tryd.underlying22 o0
  obtain ⟨f0, h0⟩ := h0
  obtain ⟨a, ta, ba⟩ := trod_txs (y := (d0, p0)) Tryd.underlying22 h0
  have hb : Rows.uptoBulkAll [d0] ≤ 1048576 := of_decide_eq_true hk
  simp only [Rows.uptoBulkAll] at hb
  simp only [] at ba
  exact cutFull_core a _ W ta (by omega) hg
end Go.Proofs.YtldhkgelifmipaaDoor
