/- Package vertex as it landed: all texts as batches. -/
import Derived.Test.YtmhohnffaffdfaaVtxTakeN
import Derived.Test.YtmhohnffaffdfaaBatTakeT
namespace Vt
theorem takeAll_snoc (l : List (List UInt8)) (s : List UInt8) (acc : List Bt.Bat) (b : Bt.Bat) (h : takeAll l = (acc, 0)) (hs : Bt.take s = (b, 0)) : takeAll (l ++ [s]) = (acc ++ [b], 0) := by
  induction l generalizing acc with
  | nil =>
    simp only [takeAll, Prod.mk.injEq, and_true] at h
    subst h
    simp [takeAll, hs]
  | cons t l ih =>
    simp only [takeAll] at h
    split at h
    · simp only [Prod.mk.injEq] at h; rename_i h0; exact absurd h.2 h0
    · split at h
      · simp only [Prod.mk.injEq] at h; rename_i h0; exact absurd h.2 h0
      · rename_i h0 h1
        simp only [Prod.mk.injEq, and_true] at h
        subst h
        have e : takeAll l = ((takeAll l).1, 0) := by
          obtain ⟨⟨x, y⟩, hx⟩ : ∃ q, takeAll l = q := ⟨_, rfl⟩
          rw [hx] at h1 ⊢
          simp only [Prod.mk.injEq, true_and]
          simp only [] at h1
          omega
        have := ih _ e
        simp only [List.cons_append, takeAll]
        rw [if_neg h0, this]
        simp
theorem takeAll_bad (l : List (List UInt8)) (k : Nat) (hk : k < l.length) (h : (Bt.take l[k]).2 ≠ 0) : (takeAll l).2 ≠ 0 := by
  induction l generalizing k with
  | nil => simp at hk
  | cons t l ih =>
    simp only [takeAll]
    split
    · assumption
    · split
      · assumption
      · rename_i h0 h1
        cases k with
        | zero => exact absurd h (by simpa using h0)
        | succ k => exact absurd (ih k (by simpa using hk) (by simpa using h)) h1
theorem takeAll_len (l : List (List UInt8)) (bs : List Bt.Bat) (h : takeAll l = (bs, 0)) : bs.length = l.length := by
  have := congrArg List.length (takeAll_back l bs h)
  simpa using this
end Vt
namespace Go.Proofs.Ytmhohnffaffdfaa
open Go.RowKit

theorem row_not {w : World} {B n k : Nat} {t : TypeId} {v : Value} {cs : List Value} (h : w.ownsRow B t k v n cs) {g : Nat} {t' : TypeId} {cur : Array Value} {fz : Nat × Nat} (hg : w.heap[g]? = some (.cells cur t' fz)) (hne : t' ≠ t) : some g ≠ v.ownBlock := by
  intro e
  rcases h.2 with ⟨rfl, _⟩ | ⟨g', cap, cur', rfl, _, hh, _⟩
  · simp [Value.ownBlock] at e
  · have : g = g' := Option.some.inj e
    subst this
    rw [hg] at hh
    injection hh with hh
    injection hh with _ hh _
    exact hne hh
theorem Stays.row {B B' M n k : Nat} {t : TypeId} {w w' : World} {v : Value} {cs : List Value} (h : w.ownsRow B' t k v n cs) (hBB : B ≤ B') (hg : w.grownBy w' v.ownBlock) (hM : M ≤ w.heap.size) (ht : 9 ≠ t) : Stays B M w w' := by
  intro i hi hty
  refine hg.block i (by omega) (fun e => ?_)
  rcases hty with hB | ⟨cur, fz, hh⟩
  · rcases h.2 with ⟨rfl, _⟩ | ⟨g', cap, cur', rfl, hb, _⟩
    · simp [Value.ownBlock] at e
    · have : i = g' := Option.some.inj e
      omega
  · exact row_not h hh ht e
theorem own_keep {w w' : World} {B k n : Nat} {t : TypeId} {v : Value} {cs : List Value} (h : w.ownsRow B t k v n cs) (hb : Below w.heap.size w w') : w'.ownsRow B t k v n cs := own_below h hb (fun g hg => (h.lt g hg).2)
theorem info_bat : (Try.prog.info? 53).map (fun i => (i.zero, i.size, i.bytes)) = some (some (.agg #[.int .i64 0, .int .i64 0, .slice none 0 0]), 3, 40) := by kernel_rfl
theorem new3 (W : World) (n : Nat) (hn : n = W.heap.size) (a b c : Value) : ∀ q u, [a, b, c][q]? = some u → (W.alloc (.cells #[a, b, c] 53)).cell? ((⟨n, 0, none⟩ : Addr).add q) = some u := by
  intro j u hj
  subst hn
  match j, hj with
  | 0, hj => simp at hj; subst hj; simp [Addr.add, World.cell?_alloc_at]
  | 1, hj => simp at hj; subst hj; simp [Addr.add, World.cell?_alloc_at]
  | 2, hj => simp at hj; subst hj; simp [Addr.add, World.cell?_alloc_at]

theorem pbtake_eq {s : List UInt8} {R : Bt.Bat × Nat} (h : Bt.take s = R) (hs : s.length ≤ 140737488351232) (w : World) : Calls Try.prog 35 #[tx s] w (TB R w) := by subst h; exact pbtake s hs w

set_option maxHeartbeats 1000000 in
theorem pdecC {s : List UInt8} {o q : Int} {l : List (List UInt8)} {x : Nat} (h : Bt.take s = ((o, q, l), x)) (hs : s.length ≤ 140737488351232) (w : World) :
    Calls Try.prog 34 #[tx s] w (TB ((o, q, l), x) w) := by
  have H := Lib.hid h
  clear h
  go_enter Try.func34, Try.ntmps34
  go_wp2_with fail
  refine (pbtake_eq H.out hs _).mono ?_
  rintro e w1 ⟨v, rfl, hv, ty, hb⟩
  obtain ⟨av, cv, rfl⟩ := hv.len
  have hx0 := ((BBox.new w 0 0 (.slice none 0 0)).kept hb)
  have hbw : Below w.heap.size w w1 := ((Below.refl _ _).alloc (Nat.le_refl _) _).trans (hb.mono (by simp))
  obtain ⟨q0, q1, q2, f0, f1, f2⟩ := hx0.facts
  have HV := Lib.hid hv
  have TY := Lib.hid ty
  have HB := Lib.hid hbw
  have HX := Lib.hid hx0
  clear hv ty hb hbw hx0
  go_wp2_with fail
  refine bodyPost_ret (v := .tuple #[batV o q (.slice av l.length cv), .int .i64 x]) ?_ rfl ?_
  · obtain ⟨d0, d1, d2, _⟩ := (HX.out.set o q (.slice av l.length cv)).facts
    simp [results, Try.results34, go_sem, d0, d1, d2]
  · exact ⟨_, rfl, HV.out.setB HX.out _ _ _, ((TY.out.set _ _ _).set _ _ _).set _ _ _, BBox.set_below HB.out (Nat.le_refl _) _ _ _⟩

/-- A slice's block, if it has one, holds batches. -/
def TyB (w : World) (v : Value) : Prop := ∀ k, v.ownBlock = some k → ∃ cur fz, w.heap[k]? = some (Obj.cells cur 53 fz)
/-- Batches in a slice, all by their types. -/
def BtsT (w : World) (v : Value) (bs : List Bt.Bat) : Prop := ∃ cs, FlatAt w v 3 cs ∧ BtsM 0 w.heap.size w cs bs ∧ TyB w v
/-- Texts in a slice, by their type. -/
abbrev TxT (w : World) (v : Value) (ls : List (List UInt8)) : Prop := TxM 0 w.heap.size w v ls
theorem BtsT.at {w : World} {v : Value} {bs : List Bt.Bat} (h : BtsT w v bs) : BtsAt w v bs := by
  obtain ⟨cs, h1, h2, _⟩ := h
  exact ⟨cs, h1, h2.all (Nat.le_refl _)⟩
/-- Blocks of texts, and of batches, are as they were. -/
structure Keeps (w w' : World) : Prop where
  size : w.heap.size ≤ w'.heap.size
  block : ∀ (k : Nat) (cur : Array Value) (t : TypeId) (fz : Nat × Nat), w.heap[k]? = some (Obj.cells cur t fz) → (t = 9 ∨ t = 53) → w'.heap[k]? = w.heap[k]?
theorem Keeps.of {w w' : World} (h : Below w.heap.size w w') : Keeps w w' := ⟨h.size, fun k _ _ _ e _ => h.block k (Array.getElem?_eq_some_iff.1 e).1⟩
theorem Keeps.trans {a b c : World} (h : Keeps a b) (k : Keeps b c) : Keeps a c := ⟨Nat.le_trans h.size k.size, fun i cur t fz e ht => by
  have e1 := h.block i cur t fz e ht
  rw [k.block i cur t fz (by rw [e1]; exact e) ht, e1]⟩
theorem Keeps.set {w : World} {R : Nat} {cur : Array Value} {t : TypeId} {fz : Nat × Nat} (h : w.heap[R]? = some (.cells cur t fz)) (ht : t ≠ 9 ∧ t ≠ 53) (i : Nat) (x : Value) : Keeps w (w.setCell ⟨R, i, none⟩ x) := by
  refine ⟨by simp, fun k cur' t' fz' e ht' => Below.heap_setCell w ⟨R, i, none⟩ x k (fun ek => ?_)⟩
  have ek : k = R := ek
  subst ek
  rw [h] at e
  injection e with e
  injection e with _ e _
  subst e
  rcases ht' with e | e
  · exact ht.1 e
  · exact ht.2 e
theorem Keeps.stays {w w' : World} (h : Keeps w w') (M : Nat) : Stays 0 M w w' := fun k _ hty => by
  rcases hty with hB | ⟨cur, fz, hh⟩
  · omega
  · exact h.block k cur _ fz hh (.inl rfl)
theorem BtsT.keep {w w' : World} {v : Value} {bs : List Bt.Bat} (h : BtsT w v bs) (k : Keeps w w') : BtsT w' v bs := by
  obtain ⟨cs, h1, h2, h3⟩ := h
  refine ⟨cs, ?_, (h2.keep (k.stays _)).mono (Nat.le_refl _) k.size, fun g hg => ?_⟩
  · rcases h1 with h1 | ⟨b, off, n, cap, hv, hl, hc⟩
    · exact .inl h1
    · obtain ⟨cur, fz, hh⟩ := h3 b (by rw [hv]; rfl)
      exact .inr ⟨b, off, n, cap, hv, hl, fun i hi => (World.cell?_of_block (a := ⟨b, off + i, none⟩) (k.block b cur _ fz hh (.inr rfl))).trans (hc i hi)⟩
  · obtain ⟨cur, fz, hh⟩ := h3 g hg
    exact ⟨cur, fz, by rw [k.block g cur _ fz hh (.inr rfl)]; exact hh⟩
theorem TxM.keepT {w w' : World} {v : Value} {ls : List (List UInt8)} (h : TxT w v ls) (k : Keeps w w') : TxT w' v ls := (TxM.keep h (k.stays _)).mono (Nat.le_refl _) k.size
theorem BtsT.own {w : World} {base n : Nat} {v : Value} {cs : List Value} {bs : List Bt.Bat} (h : w.ownsRow base 53 3 v n cs) (h2 : BtsM 0 w.heap.size w cs bs) : BtsT w v bs :=
  ⟨cs, FlatAt.own h, h2, fun g hg => by
    rcases h.2 with ⟨rfl, _⟩ | ⟨g', cap, cur, rfl, _, hh, _⟩
    · simp [Value.ownBlock] at hg
    · have : g' = g := Option.some.inj hg
      subst this
      exact ⟨cur, _, hh⟩⟩
theorem BtsT.nil (w : World) (c : Nat) : BtsT w (.slice none 0 c) [] := ⟨[], .inl ⟨_, _, rfl, rfl⟩, trivial, fun g hg => by cases hg⟩
/-- What a call that takes all batches comes to. -/
def TE (ls : List (List UInt8)) (w : World) (e : Ending) (w' : World) : Prop :=
  Below w.heap.size w w' ∧ ((∃ x : Nat, e = .returned (.tuple #[.slice none 0 0, .int .i64 x]) ∧ x ≠ 0 ∧ (Vt.takeAll ls).2 ≠ 0) ∨
    ∃ u bs, e = .returned (.tuple #[u, .int .i64 0]) ∧ Vt.takeAll ls = (bs, 0) ∧ BtsT w' u bs)

set_option maxHeartbeats 2000000 in
theorem peachT (v : Value) (ls : List (List UInt8)) (w : World) (hv : TxAt w v ls) (h4 : ls.length ≤ 4) (hl : ∀ t ∈ ls, t.length ≤ 140737488351232) :
    Calls Try.prog 33 #[v, .func (.func 34) #[] #[]] w (TE ls w) := by
  obtain ⟨i0, hi, hz0, hz1, hz2⟩ := info_parts info_bat
  rcases hv with ⟨a, cap, rfl, rfl⟩ | ⟨b, off, cap, rfl, hc⟩
  · go_enter Try.func33, Try.ntmps33
    go_wp2_with fail
    refine wp_loop_rounds 1 ?_
    rw [rounds_succ]
    go_wp2
    go_ret2
    exact ⟨Below.refl _ _, .inr ⟨_, [], rfl, rfl, BtsT.nil _ _⟩⟩
  have HC := Lib.hid hc
  have HLN := Lib.hid hl
  clear hc hl
  go_enter Try.func33, Try.ntmps33
  go_wp2_with fail
  go_loopw [6, 13] (fun v i wr => ∃ (k : Nat) (acc : List Bt.Bat) (cs : List Value), i = .int .i64 k ∧ k ≤ ls.length ∧ Below w.heap.size w wr ∧ Vt.takeAll (ls.take k) = (acc, 0) ∧ BtsM 0 wr.heap.size wr cs acc ∧ wr.ownsRow w.heap.size 53 3 v k cs) (fun _ i _ => ls.length - (intOf i).toNat)
  case atStart => exact ⟨0, [], [], rfl, by omega, Below.refl _ _, rfl, trivial, ⟨rfl, .inl ⟨rfl, rfl⟩⟩⟩
  case round =>
    obtain ⟨k, acc, cs, rfl, hk, hbel, htk, hbs, hown⟩ := hrel
    have HB := Lib.hid hbel
    have HO := Lib.hid hown
    have HK := Lib.hid htk
    have HS := Lib.hid hbs
    clear hbel hown htk hbs
    by_cases hlt : k < ls.length
    · have c1 := below_cell HB.out (HC.out k hlt)
      have hln := HLN.out _ (List.getElem_mem hlt)
      have hstep : ∀ b, Bt.take ls[k] = (b, 0) → Vt.takeAll (ls.take (k + 1)) = (acc ++ [b], 0) := fun b hb => by
        rw [List.take_succ_eq_append_getElem hlt]; exact Vt.takeAll_snoc _ _ _ _ HK.out hb
      have hbad : (Bt.take ls[k]).2 ≠ 0 → (Vt.takeAll ls).2 ≠ 0 := fun h => Vt.takeAll_bad ls k hlt h
      have HST := Lib.hid hstep
      have HBD := Lib.hid hbad
      clear hstep hbad
      generalize ls[k] = s at *
      obtain ⟨⟨⟨o, q, m⟩, x⟩, hR⟩ : ∃ R, Bt.take s = R := ⟨_, rfl⟩
      have HR := Lib.hid hR
      by_cases hx : x = 0
      · subst hx
        have HST2 := Lib.hid (HST.out _ hR)
        clear hR
        go_wp2_with fail
        refine (pdecC HR.out hln _).mono ?_
        rintro e w1 ⟨u, rfl, hu, ty, g1⟩
        have HM := Lib.hid (TxM.ofT (B := 0) hu ty)
        obtain ⟨au, cu, rfl⟩ := hu.len
        have G1 := Lib.hid (grow_trans HB.out g1)
        have HO1 := Lib.hid (own_keep HO.out g1)
        have HS1 := Lib.hid ((HS.out.keep (Stays.of g1)).mono (Nat.le_refl _) g1.size)
        have hsz := Lib.hid g1.size
        clear g1 hu ty HO HS
        obtain ⟨W2, hW2⟩ : ∃ W2, w1.alloc (.cells #[.int .i64 o, .int .i64 q, .slice au m.length cu] 53) = W2 := ⟨_, rfl⟩
        have HG2 := Lib.hid (show Below w1.heap.size w1 W2 by rw [← hW2]; exact (Below.refl _ _).alloc (Nat.le_refl _) _)
        have HSZ := Lib.hid (show W2.heap.size = w1.heap.size + 1 by rw [← hW2]; simp)
        have HOW := Lib.hid (own_keep HO1.out HG2.out)
        have HXW := Lib.hid hW2
        clear hW2
        go_wp2_with (at_builtin; rw [HXW.out]; refine wpList_append_own _ rfl _ _ 23 rfl w.heap.size 53 i0 (.agg #[.int .i64 0, .int .i64 0, .slice none 0 0]) 3 40 Try.underlying23 hi hz0 hz1 hz2 rfl (by decide) _ _ _ rfl (HOW.out.alloc _) ⟨w1.heap.size + 1, 0, none⟩ 1 1 [.int .i64 o, .int .i64 q, .slice au m.length cu] rfl rfl ?c1 ?c2 ?c3 ?c4 ?c5 ?_)
        case c1 => exact new3 W2 (w1.heap.size + 1) HSZ.out.symm _ _ _
        case c2 => intro u hu; simp at hu; rcases hu with rfl | rfl | rfl <;> rfl
        case c3 => unfold maxLen; omega
        case c4 => omega
        case c5 => have := G1.out.size; have := HSZ.out; simp; omega
        intro v' w2 hown2 hgrow _
        have g13 : Below w1.heap.size w1 (W2.alloc (.cells #[.int .i64 o, .int .i64 q, .slice au m.length cu] 53)) := HG2.out.alloc HG2.out.size _
        have st : Stays 0 (W2.alloc (.cells #[.int .i64 o, .int .i64 q, .slice au m.length cu] 53)).heap.size (W2.alloc (.cells #[.int .i64 o, .int .i64 q, .slice au m.length cu] 53)) w2 := Stays.row (HOW.out.alloc _) (Nat.zero_le _) hgrow (Nat.le_refl _) (by decide)
        have hm2 : TxM 0 w2.heap.size w2 (.slice au m.length cu) m := (((HM.out.keep (Stays.of g13)).mono (Nat.le_refl _) g13.size).keep st).mono (Nat.le_refl _) hgrow.size
        have hs2 : BtsM 0 w2.heap.size w2 cs acc := (((HS1.out.keep (Stays.of g13)).mono (Nat.le_refl _) g13.size).keep st).mono (Nat.le_refl _) hgrow.size
        have HS2 := Lib.hid (show BtsM 0 w2.heap.size w2 (cs ++ [.int .i64 o, .int .i64 q, .slice au m.length cu]) (acc ++ [(o, q, m)]) from BtsM.app (ds := [.int .i64 o, .int .i64 q, .slice au m.length cu]) (ys := [(o, q, m)]) (show _ ∧ _ from ⟨rfl, rfl, hm2, trivial⟩) hs2)
        have HO3 := Lib.hid hown2
        have hbel2 : Below w.heap.size w w2 := ((G1.out.trans (HG2.out.mono G1.out.size)).alloc (by have := G1.out.size; have := HSZ.out; omega) _).grown hgrow (by have := G1.out.size; have := HSZ.out; simp; omega) (fun k hk => (HO1.out.lt k hk).1)
        have HB2 := Lib.hid hbel2
        clear hown2 hgrow HO1 hbel2 g13 st hm2 hs2 HOW HG2 HXW HM HS1
        go_wp2
        go_roundw
        case rel => exact ⟨k + 1, _, _, by go_num, by omega, HB2.out, HST2.out, HS2.out, HO3.out⟩
        case measure => simp [intOf]; omega
      · have t1 : ((x : Int) != 0) = true := by rw [bne_iff_ne]; omega
        have HX := Lib.hid hx
        have HBD2 := Lib.hid (HBD.out (by rw [hR]; exact hx))
        clear hR hx
        go_wp2_with fail
        refine (pdecC HR.out hln _).mono ?_
        rintro e w1 ⟨u, rfl, hu, ty, g1⟩
        obtain ⟨au, cu, rfl⟩ := hu.len
        have G1 := Lib.hid (grow_trans HB.out g1)
        clear g1 hu ty
        go_wp2
        go_ret2
        exact ⟨G1.out.alloc G1.out.size _, .inl ⟨x, rfl, HX.out, HBD2.out⟩⟩
    · obtain rfl : k = ls.length := by omega
      have hT := HK.out
      rw [List.take_length] at hT
      have HT := Lib.hid hT
      clear hT
      go_wp2
      go_ret2
      exact ⟨HB.out, .inr ⟨_, acc, rfl, HT.out, BtsT.own HO.out HS.out⟩⟩
end Go.Proofs.Ytmhohnffaffdfaa
