/- What Feed's walk is made of: the run of the states, the middle of a cut. -/
import Derived.Test.YtldhkgelifmipaaDoorCutFeedA
namespace Ct
theorem feed_run (c : Blk) (l : List Tx) (hs : Dg.sizes c.2.2 + Dg.sizes l ≤ 400000000) (hp : c.2.1.length ≤ 1073741824) (hn : c.1 ≤ 9223372036854775807) :
    ∃ X : Nat → Blk × List Blk, X 0 = (c, []) ∧ X l.length = feed dig nxt c l ∧ (∀ k (h : k < l.length), X (k + 1) = step dig nxt (X k) l[k]) ∧
      ∀ k, k ≤ l.length → Dg.sizes (X k).1.2.2 ≤ 400000000 ∧ (X k).1.2.1.length ≤ 1073741824 ∧ (X k).1.1 ≤ 9223372036854775807 ∧ (X k).2.length ≤ k := by
  refine ⟨fun k => feed dig nxt c (l.take k), rfl, ?_, fun k h => feed_step dig nxt c l k h, fun k hk => ?_⟩
  · show feed dig nxt c (l.take l.length) = _
    rw [List.take_length]
  · obtain ⟨h1, h2, h3⟩ := feed_fit c l hp hn k hk
    have h4 := sizes_le_take l k
    exact ⟨by show Dg.sizes (feed dig nxt c (l.take k)).1.2.2 ≤ _; omega, h2, h3, (feed_len dig nxt c l k hk).1⟩
end Ct
namespace Go.Proofs.YtldhkgelifmipaaDoor
open Go.RowKit

theorem TxAt.some {w : World} {a : Option Addr} {cap : Nat} {ls : List (List UInt8)} (h : TxAt w (.slice a ls.length cap) ls) (h0 : 0 < ls.length) :
    ∃ b off, a = Option.some ⟨b, off, none⟩ ∧ ∀ i (h : i < ls.length), w.cell? ⟨b, off + i, none⟩ = Option.some (tx ls[i]) := by
  rcases h with ⟨_, _, _, rfl⟩ | ⟨b, off, _, e, hc⟩
  · exact absurd h0 (by simp)
  · injection e with e
    exact ⟨b, off, e, hc⟩
theorem own_slice {w : World} {B : Nat} {t : TypeId} {v : Value} {n : Nat} {cs : List Value} (h : w.ownsRow B t 1 v n cs) : ∃ a cap, v = .slice a n cap := by
  rcases h.2 with ⟨rfl, rfl⟩ | ⟨g, cap, cur, rfl, _⟩
  · exact ⟨_, _, rfl⟩
  · exact ⟨_, _, rfl⟩
theorem new_cells1 (W : World) (t : List UInt8) : ∀ j u, [tx t][j]? = some u → (W.alloc (.cells #[tx t] 9)).cell? ((⟨W.heap.size, 0, none⟩ : Addr).add j) = some u := by
  intro j u h
  have ha : (⟨W.heap.size, 0, none⟩ : Addr).add j = ⟨W.heap.size, j, none⟩ := by unfold Addr.add; split <;> simp_all
  rw [ha, World.cell?_alloc_at _ _ _ _ rfl]
  simpa using h
theorem CF.k4 {B : Nat} {w wr w4 : World} {C R : Nat} {c : Ct.Blk} {out : List Ct.Blk} {uT bv : Value} {M : Nat} {o : Obj} (h : CF B w wr C R c out uT bv M) (hg : (wr.alloc o).grownBy w4 uT.ownBlock) :
    KBox w4 C 24 (.int .i64 c.1) (tx c.2.1) uT := by
  obtain ⟨l1, l2, l3, l4, l5, l6⟩ := h.le
  have hbM : Below M wr w4 := ((Below.refl _ _).alloc l6 o).grown hg (by simp; omega) (fun k hk => (h.own.lt k hk).1)
  exact h.kc.below hbM l1

/-- The middle of a cut: the new cutter in box H, the cutter in box C, the row of blocks r. -/
structure Mid (B : Nat) (w w6 x : World) (C R H : Nat) (n' : Int) (d : List UInt8) (a b c : Value) (r : Value) (m : Nat) (ds : List Value) : Prop where
  hB : B ≤ w.heap.size
  st : Stays B w6.heap.size w6 x
  kr : ∃ a b e, KBox x R 24 a b e
  bl : Below w.heap.size w x
  sz : w6.heap.size ≤ x.heap.size
  kh : KBox x H 24 (.int .i64 n') (tx d) (.slice none 0 0)
  kc : KBox x C 24 a b c
  ro : x.ownsRow w.heap.size 25 3 r m ds
  ne : H ≠ C ∧ C ≠ R ∧ w.heap.size ≤ C
theorem Mid.start {B : Nat} {w w6 x : World} {C R H : Nat} {n : Int} {p : List UInt8} {ls : List (List UInt8)} {out : List Ct.Blk} {uT bv : Value} {M : Nat} {n' : Int} {d : List UInt8} {cs : List Value} (h : CF B w w6 C R (n, p, ls) out uT bv M)
    (hr : w6.ownsRow w.heap.size 25 3 bv out.length cs) (hb : Below w6.heap.size w6 x) (kh : KBox x H 24 (.int .i64 n') (tx d) (.slice none 0 0)) (hH : w6.heap.size ≤ H) (hB : B ≤ w.heap.size) :
    Mid B w w6 x C R H n' d (.int .i64 n) (tx p) uT bv out.length cs := by
  obtain ⟨l1, l2, l3, l4, l5, l6⟩ := h.le
  obtain ⟨a, b, e, kr⟩ := h.kr
  exact ⟨hB, Stays.of hb, ⟨a, b, e, kr.kept hb⟩, grow_trans h.b hb, hb.size, kh, h.kc.kept hb, own_keep hr hb, by omega, l5, l3⟩
theorem Mid.drew {B : Nat} {w w6 x : World} {C R H : Nat} {n' : Int} {d : List UInt8} {a b c : Value} {r : Value} {m : Nat} {ds : List Value} (h : Mid B w w6 x C R H n' d a b c r m ds) : Mid B w w6 x.drew C R H n' d a b c r m ds :=
  ⟨h.hB, h.st, h.kr, h.bl.drew, h.sz, h.kh, h.kc, h.ro, h.ne⟩
theorem Mid.row {B : Nat} {w w6 x w7 : World} {C R H : Nat} {n' : Int} {d : List UInt8} {a b c : Value} {r v7 : Value} {m m7 : Nat} {ds ds7 : List Value} (h : Mid B w w6 x C R H n' d a b c r m ds)
    (hown : w7.ownsRow w.heap.size 25 3 v7 m7 ds7) (hg : x.grownBy w7 r.ownBlock) : Mid B w w6 w7 C R H n' d a b c v7 m7 ds7 := by
  obtain ⟨a1, b1, e1, kr⟩ := h.kr
  exact ⟨h.hB, h.st.trans (Stays.row h.ro h.hB hg h.sz (by decide)), ⟨a1, b1, e1, kr.grown hg (row_not h.ro kr (by decide))⟩, h.bl.grown hg h.bl.size (fun k hk => (h.ro.lt k hk).1), Nat.le_trans h.sz hg.size,
    h.kh.grown hg (row_not h.ro h.kh (by decide)), h.kc.grown hg (row_not h.ro h.kc (by decide)), hown, h.ne⟩
theorem Mid.put {B : Nat} {w w6 x : World} {C R H : Nat} {n' : Int} {d : List UInt8} {a b c : Value} {r : Value} {m : Nat} {ds : List Value} (h : Mid B w w6 x C R H n' d a b c r m ds) (a' b' c' : Value) :
    Mid B w w6 (((x.setCell ⟨C, 0, none⟩ a').setCell ⟨C, 1, none⟩ b').setCell ⟨C, 2, none⟩ c') C R H n' d a' b' c' r m ds := by
  obtain ⟨a1, b1, e1, kr⟩ := h.kr
  obtain ⟨n1, n2, n3⟩ := h.ne
  have k1 : KBox (x.setCell ⟨C, 0, none⟩ a') C 24 a' b c := heap_setK (k := 0) h.kc a'
  have k2 : KBox ((x.setCell ⟨C, 0, none⟩ a').setCell ⟨C, 1, none⟩ b') C 24 a' b' c := heap_setK (k := 1) k1 b'
  have hBC : B ≤ C := Nat.le_trans h.hB n3
  refine ⟨h.hB, ((h.st.trans (Stays.box h.kc hBC (by decide) _ _)).trans (Stays.box k1 hBC (by decide) _ _)).trans (Stays.box k2 hBC (by decide) _ _),
    ⟨a1, b1, e1, ((kr.other (Ne.symm n2) _ _).other (Ne.symm n2) _ _).other (Ne.symm n2) _ _⟩, below_set3 h.bl n3 _ _ _, ?_, ((h.kh.other n1 _ _).other n1 _ _).other n1 _ _, h.kc.set _ _ _,
    own_box (own_box (own_box h.ro h.kc (by decide) _ _) k1 (by decide) _ _) k2 (by decide) _ _, n1, n2, n3⟩
  have := h.sz
  simp only [World.setCell, Array.size_modify]
  omega
theorem Mid.end {B : Nat} {w w6 x : World} {C R H : Nat} {n : Int} {p : List UInt8} {ls : List (List UInt8)} {out : List Ct.Blk} {uT bv uc v7 : Value} {M : Nat} {n' : Int} {d : List UInt8} {cs : List Value} (h : CF B w w6 C R (n, p, ls) out uT bv M) (hcs : BlksM B M w6 cs out)
    (ht : TxM B w6.heap.size w6 uc ls) (k : Mid B w w6 x C R H n' d (.int .i64 n') (tx d) (.slice none 0 0) v7 (out.length + 1) (cs ++ [.int .i64 n, tx p, uc])) :
    CF B w x C R (n', d, []) (out ++ [(n, p, ls)]) (.slice none 0 0) v7 x.heap.size := h.cut hcs ht k.st k.kc k.kr k.ro k.bl k.sz
/-- Feed's end: the answer's cells are written. -/
theorem CF.done {B : Nat} {w wr wE : World} {C R : Nat} {n : Int} {p : List UInt8} {ls : List (List UInt8)} {out : List Ct.Blk} {uT bv : Value} {M : Nat} {a b e x y z : Value} (h : CF B w wr C R (n, p, ls) out uT bv M) (kr : KBox wr R 24 a b e)
    (hE : ((wr.setCell ⟨R, 0, none⟩ x).setCell ⟨R, 1, none⟩ y).setCell ⟨R, 2, none⟩ z = wE) (hB : B ≤ w.heap.size := by exact Nat.zero_le _) :
    ∃ cs, TxAt wE uT ls ∧ wE.ownsRow w.heap.size 25 3 bv out.length cs ∧ BlksM B wE.heap.size wE cs out ∧ Below w.heap.size w wE ∧ ∀ k, uT.ownBlock = some k → TyS wE k := by
  obtain ⟨l1, l2, l3, l4, l5, l6⟩ := h.le
  obtain ⟨cs, h1, h2⟩ := h.bs
  have hBR : B ≤ R := Nat.le_trans hB l4
  have k1 : KBox (wr.setCell ⟨R, 0, none⟩ x) R 24 x b e := heap_setK (k := 0) kr x
  have k2 : KBox ((wr.setCell ⟨R, 0, none⟩ x).setCell ⟨R, 1, none⟩ y) R 24 x y e := heap_setK (k := 1) k1 y
  have sz : wE.heap.size = wr.heap.size := by
    rw [← hE]
    simp only [World.setCell, Array.size_modify]
  have hown : wE.ownsRow M 9 1 uT ls.length (ls.map tx) := by rw [← hE]; exact ownsRow_setCell_below (ownsRow_setCell_below (ownsRow_setCell_below h.own (a := ⟨R, 0, none⟩) l2 x) (a := ⟨R, 1, none⟩) l2 y) (a := ⟨R, 2, none⟩) l2 z
  refine ⟨cs, TxAt.own hown, by rw [← hE]; exact own_box (own_box (own_box h1 kr (by decide) _ _) k1 (by decide) _ _) k2 (by decide) _ _, ?_, by rw [← hE]; exact below_set3 h.b l4 _ _ _, fun k hk => tys_own hown (fun _ _ => rfl) k hk rfl⟩
  refine BlksM.mono (Nat.le_refl _) (by omega : M ≤ wE.heap.size) (h2.keep ?_)
  rw [← hE]
  exact ((Stays.box kr hBR (by decide) _ _).trans (Stays.box k1 hBR (by decide) _ _)).trans (Stays.box k2 hBR (by decide) _ _)
end Go.Proofs.YtldhkgelifmipaaDoor
