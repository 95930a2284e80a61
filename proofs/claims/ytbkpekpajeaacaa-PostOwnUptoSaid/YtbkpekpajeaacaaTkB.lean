/- VtxTakeN, VtxDecE, VtxDec, VtxTake, in one. -/
import Derived.Test.YtbkpekpajeaacaaVtxA
import Derived.Test.YtbkpekpajeaacaaTkA
set_option maxRecDepth 100000
/- Package vertex as it landed: two numbers taken into an array. -/
namespace Go.Proofs.Ytbkpekpajeaacaa
open Go.RowKit

/-- An array of four numbers, in a block. -/
def UBox (W : World) (A : Nat) (a b c d : Int) : Prop := W.heap[A]? = some (.cells #[.int .u64 a, .int .u64 b, .int .u64 c, .int .u64 d] 149 (0, 0))
/-- Only block A has changed. -/
structure Only (A : Nat) (W W' : World) : Prop where
  below : ∀ n, n ≤ A → Below n W W'
  other : ∀ k, k ≠ A → W'.heap[k]? = W.heap[k]?
section
variable {W W' W'' : World} {A : Nat} {a b c d : Int}
theorem UBox.lt (h : UBox W A a b c d) : A < W.heap.size := (Array.getElem?_eq_some_iff.1 h).1
theorem UBox.facts (h : UBox W A a b c d) : W.cell? ⟨A, 0, none⟩ = some (.int .u64 a) ∧ W.cell? ⟨A, 1, none⟩ = some (.int .u64 b) ∧ W.cell? ⟨A, 2, none⟩ = some (.int .u64 c) ∧ W.cell? ⟨A, 3, none⟩ = some (.int .u64 d) ∧ W.frozen? ⟨A, 0, none⟩ = false ∧ W.frozen? ⟨A, 1, none⟩ = false ∧ W.frozen? ⟨A, 2, none⟩ = false ∧ W.frozen? ⟨A, 3, none⟩ = false := by
  have e : W.heap[A]? = _ := h
  refine ⟨?_, ?_, ?_, ?_, ?_, ?_, ?_, ?_⟩ <;> simp [World.cell?, World.frozen?, e]
theorem UBox.new (W : World) (a b c d : Int) : UBox (W.alloc (.cells #[.int .u64 a, .int .u64 b, .int .u64 c, .int .u64 d] 149)) W.heap.size a b c d := World.alloc_heap_new W _
theorem UBox.kept (h : UBox W A a b c d) (hb : Below W.heap.size W W') : UBox W' A a b c d := (hb.block A h.lt).trans h
theorem UBox.set0 (h : UBox W A a b c d) (v : Int) : UBox (W.setCell ⟨A, 0, none⟩ (.int .u64 v)) A v b c d := heap_setQ (k := 0) h _
theorem UBox.set1 (h : UBox W A a b c d) (v : Int) : UBox (W.setCell ⟨A, 1, none⟩ (.int .u64 v)) A a v c d := heap_setQ (k := 1) h _
theorem UBox.set2 (h : UBox W A a b c d) (v : Int) : UBox (W.setCell ⟨A, 2, none⟩ (.int .u64 v)) A a b v d := heap_setQ (k := 2) h _
theorem UBox.set3 (h : UBox W A a b c d) (v : Int) : UBox (W.setCell ⟨A, 3, none⟩ (.int .u64 v)) A a b c v := heap_setQ (k := 3) h _
theorem Only.refl (A : Nat) (W : World) : Only A W W := ⟨fun _ _ => Below.refl _ _, fun _ _ => rfl⟩
theorem Only.drew (h : Only A W W') (k : Nat) : Only A W (W'.drewN k) := ⟨fun n hn => below_drewN (h.below n hn) k, fun k hk => h.other k hk⟩
theorem Only.set (h : Only A W W') (j : Nat) (v : Value) : Only A W (W'.setCell ⟨A, j, none⟩ v) :=
  ⟨fun n hn => (h.below n hn).setCell (p := ⟨A, j, none⟩) hn v, fun k hk => (Below.heap_setCell W' ⟨A, j, none⟩ v k hk).trans (h.other k hk)⟩
end

/-- What a call that takes two numbers comes to. -/
def TwoN (s : List UInt8) (A : Nat) (box : World → Nat → Nat → Prop) (w : World) (e : Ending) (w' : World) : Prop :=
  Only A w w' ∧ ((∃ x : Nat, e = .returned (.tuple #[tx [], .int .i64 x]) ∧ x ≠ 0 ∧ ((Dg.takeNum s).2.2 ≠ 0 ∨ (Dg.takeNum (Dg.takeNum s).2.1).2.2 ≠ 0)) ∨
    ∃ u v s1 s2, e = .returned (.tuple #[tx s2, .int .i64 0]) ∧ Dg.takeNum s = (u, s1, 0) ∧ Dg.takeNum s1 = (v, s2, 0) ∧ box w' u v)

set_option maxHeartbeats 2000000 in
theorem ptakeN0 (s : List UInt8) (hs : s.length ≤ 140737488351232) (A cap : Nat) (a b c d : Int) (w : World) (hu : UBox w A a b c d) :
    Calls Try.prog 107 #[tx s, .slice (some ⟨A, 0, none⟩) 2 cap] w (TwoN s A (fun w' u v => UBox w' A u v c d) w) := by
  obtain ⟨u, s1, x, h1⟩ : ∃ u s1 x, Dg.takeNum s = (u, s1, x) := ⟨_, _, _, rfl⟩
  obtain ⟨v, s2, y, h2⟩ : ∃ v s2 y, Dg.takeNum s1 = (v, s2, y) := ⟨_, _, _, rfl⟩
  have l1 : s1.length ≤ s.length := by have := Dg.takeNum_rest s; rw [h1] at this; exact this
  have H1 := Lib.hid h1
  have H2 := Lib.hid h2
  have HU := Lib.hid hu
  obtain ⟨k0, k1, k2, k3, f0, f1, f2, f3⟩ := hu.facts
  clear h1 h2 hu
  by_cases hx : x = 0
  · subst hx
    by_cases hy : y = 0
    · subst hy
      go_enter Try.func107, Try.ntmps107
      go_wp2_with fail
      refine wp_loop_rounds 3 ?_
      rw [rounds_succ]
      go_wp2_with fail
      refine (takeNum_eq H1.out (by omega) _).mono ?_
      rintro e w1 ⟨rfl, q1, rfl⟩
      go_wp2_with fail
      rw [rounds_succ]
      go_wp2_with fail
      refine (takeNum_eq H2.out (by omega) _).mono ?_
      rintro e w1 ⟨rfl, q2, rfl⟩
      go_wp2_with fail
      rw [rounds_succ]
      go_wp2
      go_ret2
      exact ⟨((((Only.refl A w).drew q1).set 0 _).drew q2).set 1 _, .inr ⟨u, v, s1, s2, rfl, H1.out, H2.out, (HU.out.set0 u).set1 v⟩⟩
    · have t1 : ((y : Int) != 0) = true := by rw [bne_iff_ne]; omega
      have HY := Lib.hid hy
      clear hy
      go_enter Try.func107, Try.ntmps107
      go_wp2_with fail
      refine wp_loop_rounds 3 ?_
      rw [rounds_succ]
      go_wp2_with fail
      refine (takeNum_eq H1.out (by omega) _).mono ?_
      rintro e w1 ⟨rfl, q1, rfl⟩
      go_wp2_with fail
      rw [rounds_succ]
      go_wp2_with fail
      refine (takeNum_eq H2.out (by omega) _).mono ?_
      rintro e w1 ⟨rfl, q2, rfl⟩
      go_wp2
      go_ret2
      exact ⟨(((Only.refl A w).drew q1).set 0 _).drew q2, .inl ⟨y, rfl, HY.out, .inr (by rw [H1.out]; simp only []; rw [H2.out]; exact HY.out)⟩⟩
  · have t1 : ((x : Int) != 0) = true := by rw [bne_iff_ne]; omega
    have HX := Lib.hid hx
    clear hx
    go_enter Try.func107, Try.ntmps107
    go_wp2_with fail
    refine wp_loop_rounds 3 ?_
    rw [rounds_succ]
    go_wp2_with fail
    refine (takeNum_eq H1.out (by omega) _).mono ?_
    rintro e w1 ⟨rfl, q1, rfl⟩
    go_wp2
    go_ret2
    exact ⟨(Only.refl A w).drew q1, .inl ⟨x, rfl, HX.out, .inl (by rw [H1.out]; exact HX.out)⟩⟩

set_option maxHeartbeats 2000000 in
theorem ptakeN2 (s : List UInt8) (hs : s.length ≤ 140737488351232) (A cap : Nat) (a b c d : Int) (w : World) (hu : UBox w A a b c d) :
    Calls Try.prog 107 #[tx s, .slice (some ⟨A, 2, none⟩) 2 cap] w (TwoN s A (fun w' u v => UBox w' A a b u v) w) := by
  obtain ⟨u, s1, x, h1⟩ : ∃ u s1 x, Dg.takeNum s = (u, s1, x) := ⟨_, _, _, rfl⟩
  obtain ⟨v, s2, y, h2⟩ : ∃ v s2 y, Dg.takeNum s1 = (v, s2, y) := ⟨_, _, _, rfl⟩
  have l1 : s1.length ≤ s.length := by have := Dg.takeNum_rest s; rw [h1] at this; exact this
  have H1 := Lib.hid h1
  have H2 := Lib.hid h2
  have HU := Lib.hid hu
  obtain ⟨k0, k1, k2, k3, f0, f1, f2, f3⟩ := hu.facts
  clear h1 h2 hu
  by_cases hx : x = 0
  · subst hx
    by_cases hy : y = 0
    · subst hy
      go_enter Try.func107, Try.ntmps107
      go_wp2_with fail
      refine wp_loop_rounds 3 ?_
      rw [rounds_succ]
      go_wp2_with fail
      refine (takeNum_eq H1.out (by omega) _).mono ?_
      rintro e w1 ⟨rfl, q1, rfl⟩
      go_wp2_with fail
      rw [rounds_succ]
      go_wp2_with fail
      refine (takeNum_eq H2.out (by omega) _).mono ?_
      rintro e w1 ⟨rfl, q2, rfl⟩
      go_wp2_with fail
      rw [rounds_succ]
      go_wp2
      go_ret2
      exact ⟨((((Only.refl A w).drew q1).set 2 _).drew q2).set 3 _, .inr ⟨u, v, s1, s2, rfl, H1.out, H2.out, (HU.out.set2 u).set3 v⟩⟩
    · have t1 : ((y : Int) != 0) = true := by rw [bne_iff_ne]; omega
      have HY := Lib.hid hy
      clear hy
      go_enter Try.func107, Try.ntmps107
      go_wp2_with fail
      refine wp_loop_rounds 3 ?_
      rw [rounds_succ]
      go_wp2_with fail
      refine (takeNum_eq H1.out (by omega) _).mono ?_
      rintro e w1 ⟨rfl, q1, rfl⟩
      go_wp2_with fail
      rw [rounds_succ]
      go_wp2_with fail
      refine (takeNum_eq H2.out (by omega) _).mono ?_
      rintro e w1 ⟨rfl, q2, rfl⟩
      go_wp2
      go_ret2
      exact ⟨(((Only.refl A w).drew q1).set 2 _).drew q2, .inl ⟨y, rfl, HY.out, .inr (by rw [H1.out]; simp only []; rw [H2.out]; exact HY.out)⟩⟩
  · have t1 : ((x : Int) != 0) = true := by rw [bne_iff_ne]; omega
    have HX := Lib.hid hx
    clear hx
    go_enter Try.func107, Try.ntmps107
    go_wp2_with fail
    refine wp_loop_rounds 3 ?_
    rw [rounds_succ]
    go_wp2_with fail
    refine (takeNum_eq H1.out (by omega) _).mono ?_
    rintro e w1 ⟨rfl, q1, rfl⟩
    go_wp2
    go_ret2
    exact ⟨(Only.refl A w).drew q1, .inl ⟨x, rfl, HX.out, .inl (by rw [H1.out]; exact HX.out)⟩⟩
end Go.Proofs.Ytbkpekpajeaacaa
/- Package vertex as it landed: all texts as batches. -/
namespace Vt
theorem takeAll_snoc (l : List (List UInt8)) (s : List UInt8) (acc : List Bt.Bat) (b : Bt.Bat) (h : takeAll l = (acc, 0)) (hs : Bt.take s = (b, 0)) : takeAll (l ++ [s]) = (acc ++ [b], 0) := by
  induction l generalizing acc with
  | nil =>
    simp only [takeAll, Prod.mk.injEq, and_true] at h
    subst h
    simp [takeAll, hs]
  | cons t l ih =>
    simp only [takeAll] at h
    split at h
    · simp only [Prod.mk.injEq] at h; rename_i h0; exact absurd h.2 h0
    · split at h
      · simp only [Prod.mk.injEq] at h; rename_i h0; exact absurd h.2 h0
      · rename_i h0 h1
        simp only [Prod.mk.injEq, and_true] at h
        subst h
        have e : takeAll l = ((takeAll l).1, 0) := by
          obtain ⟨⟨x, y⟩, hx⟩ : ∃ q, takeAll l = q := ⟨_, rfl⟩
          rw [hx] at h1 ⊢
          simp only [Prod.mk.injEq, true_and]
          simp only [] at h1
          omega
        have := ih _ e
        simp only [List.cons_append, takeAll]
        rw [if_neg h0, this]
        simp
theorem takeAll_bad (l : List (List UInt8)) (k : Nat) (hk : k < l.length) (h : (Bt.take l[k]).2 ≠ 0) : (takeAll l).2 ≠ 0 := by
  induction l generalizing k with
  | nil => simp at hk
  | cons t l ih =>
    simp only [takeAll]
    split
    · assumption
    · split
      · assumption
      · rename_i h0 h1
        cases k with
        | zero => exact absurd h (by simpa using h0)
        | succ k => exact absurd (ih k (by simpa using hk) (by simpa using h)) h1
theorem takeAll_len (l : List (List UInt8)) (bs : List Bt.Bat) (h : takeAll l = (bs, 0)) : bs.length = l.length := by
  have := congrArg List.length (takeAll_back l bs h)
  simpa using this
end Vt
namespace Go.Proofs.Ytbkpekpajeaacaa
open Go.RowKit

theorem row_not {w : World} {B n k : Nat} {t : TypeId} {v : Value} {cs : List Value} (h : w.ownsRow B t k v n cs) {g : Nat} {t' : TypeId} {cur : Array Value} {fz : Nat × Nat} (hg : w.heap[g]? = some (.cells cur t' fz)) (hne : t' ≠ t) : some g ≠ v.ownBlock := by
  intro e
  rcases h.2 with ⟨rfl, _⟩ | ⟨g', cap, cur', rfl, _, hh, _⟩
  · simp [Value.ownBlock] at e
  · have : g = g' := Option.some.inj e
    subst this
    rw [hg] at hh
    injection hh with hh
    injection hh with _ hh _
    exact hne hh
theorem Stays.row {B B' M n k : Nat} {t : TypeId} {w w' : World} {v : Value} {cs : List Value} (h : w.ownsRow B' t k v n cs) (hBB : B ≤ B') (hg : w.grownBy w' v.ownBlock) (hM : M ≤ w.heap.size) (ht : 9 ≠ t) : Stays B M w w' := by
  intro i hi hty
  refine hg.block i (by omega) (fun e => ?_)
  rcases hty with hB | ⟨cur, fz, hh⟩
  · rcases h.2 with ⟨rfl, _⟩ | ⟨g', cap, cur', rfl, hb, _⟩
    · simp [Value.ownBlock] at e
    · have : i = g' := Option.some.inj e
      omega
  · exact row_not h hh ht e
theorem own_keep {w w' : World} {B k n : Nat} {t : TypeId} {v : Value} {cs : List Value} (h : w.ownsRow B t k v n cs) (hb : Below w.heap.size w w') : w'.ownsRow B t k v n cs := own_below h hb (fun g hg => (h.lt g hg).2)
theorem info_bat : (Try.prog.info? 105).map (fun i => (i.zero, i.size, i.bytes)) = some (some (.agg #[.int .i64 0, .int .i64 0, .slice none 0 0]), 3, 40) := by kernel_rfl
theorem new3 (W : World) (n : Nat) (hn : n = W.heap.size) (a b c : Value) : ∀ q u, [a, b, c][q]? = some u → (W.alloc (.cells #[a, b, c] 105)).cell? ((⟨n, 0, none⟩ : Addr).add q) = some u := by
  intro j u hj
  subst hn
  match j, hj with
  | 0, hj => simp at hj; subst hj; simp [Addr.add, World.cell?_alloc_at]
  | 1, hj => simp at hj; subst hj; simp [Addr.add, World.cell?_alloc_at]
  | 2, hj => simp at hj; subst hj; simp [Addr.add, World.cell?_alloc_at]

theorem pbtake_eq {s : List UInt8} {R : Bt.Bat × Nat} (h : Bt.take s = R) (hs : s.length ≤ 140737488351232) (w : World) : Calls Try.prog 111 #[tx s] w (TB R w) := by subst h; exact pbtake s hs w

set_option maxHeartbeats 1000000 in
theorem pdecC {s : List UInt8} {o q : Int} {l : List (List UInt8)} {x : Nat} (h : Bt.take s = ((o, q, l), x)) (hs : s.length ≤ 140737488351232) (w : World) :
    Calls Try.prog 110 #[tx s] w (TB ((o, q, l), x) w) := by
  have H := Lib.hid h
  clear h
  go_enter Try.func110, Try.ntmps110
  go_wp2_with fail
  refine (pbtake_eq H.out hs _).mono ?_
  rintro e w1 ⟨v, rfl, hv, ty, hb⟩
  obtain ⟨av, cv, rfl⟩ := hv.len
  have hx0 := ((BBox.new w 0 0 (.slice none 0 0)).kept hb)
  have hbw : Below w.heap.size w w1 := ((Below.refl _ _).alloc (Nat.le_refl _) _).trans (hb.mono (by simp))
  obtain ⟨q0, q1, q2, f0, f1, f2⟩ := hx0.facts
  have HV := Lib.hid hv
  have TY := Lib.hid ty
  have HB := Lib.hid hbw
  have HX := Lib.hid hx0
  clear hv ty hb hbw hx0
  go_wp2_with fail
  refine bodyPost_ret (v := .tuple #[batV o q (.slice av l.length cv), .int .i64 x]) ?_ rfl ?_
  · obtain ⟨d0, d1, d2, _⟩ := (HX.out.set o q (.slice av l.length cv)).facts
    simp [results, Try.results110, go_sem, d0, d1, d2]
  · exact ⟨_, rfl, HV.out.setB HX.out _ _ _, ((TY.out.set _ _ _).set _ _ _).set _ _ _, BBox.set_below HB.out (Nat.le_refl _) _ _ _⟩

/-- A slice's block, if it has one, holds batches. -/
def TyB (w : World) (v : Value) : Prop := ∀ k, v.ownBlock = some k → ∃ cur fz, w.heap[k]? = some (Obj.cells cur 105 fz)
/-- Batches in a slice, all by their types. -/
def BtsT (w : World) (v : Value) (bs : List Bt.Bat) : Prop := ∃ cs, FlatAt w v 3 cs ∧ BtsM 0 w.heap.size w cs bs ∧ TyB w v
/-- Texts in a slice, by their type. -/
abbrev TxT (w : World) (v : Value) (ls : List (List UInt8)) : Prop := TxM 0 w.heap.size w v ls
theorem BtsT.at {w : World} {v : Value} {bs : List Bt.Bat} (h : BtsT w v bs) : BtsAt w v bs := by
  obtain ⟨cs, h1, h2, _⟩ := h
  exact ⟨cs, h1, h2.all (Nat.le_refl _)⟩
/-- Blocks of texts, and of batches, are as they were. -/
structure Keeps (w w' : World) : Prop where
  size : w.heap.size ≤ w'.heap.size
  block : ∀ (k : Nat) (cur : Array Value) (t : TypeId) (fz : Nat × Nat), w.heap[k]? = some (Obj.cells cur t fz) → (t = 9 ∨ t = 105) → w'.heap[k]? = w.heap[k]?
theorem Keeps.of {w w' : World} (h : Below w.heap.size w w') : Keeps w w' := ⟨h.size, fun k _ _ _ e _ => h.block k (Array.getElem?_eq_some_iff.1 e).1⟩
theorem Keeps.trans {a b c : World} (h : Keeps a b) (k : Keeps b c) : Keeps a c := ⟨Nat.le_trans h.size k.size, fun i cur t fz e ht => by
  have e1 := h.block i cur t fz e ht
  rw [k.block i cur t fz (by rw [e1]; exact e) ht, e1]⟩
theorem Keeps.set {w : World} {R : Nat} {cur : Array Value} {t : TypeId} {fz : Nat × Nat} (h : w.heap[R]? = some (.cells cur t fz)) (ht : t ≠ 9 ∧ t ≠ 105) (i : Nat) (x : Value) : Keeps w (w.setCell ⟨R, i, none⟩ x) := by
  refine ⟨by simp, fun k cur' t' fz' e ht' => Below.heap_setCell w ⟨R, i, none⟩ x k (fun ek => ?_)⟩
  have ek : k = R := ek
  subst ek
  rw [h] at e
  injection e with e
  injection e with _ e _
  subst e
  rcases ht' with e | e
  · exact ht.1 e
  · exact ht.2 e
theorem Keeps.stays {w w' : World} (h : Keeps w w') (M : Nat) : Stays 0 M w w' := fun k _ hty => by
  rcases hty with hB | ⟨cur, fz, hh⟩
  · omega
  · exact h.block k cur _ fz hh (.inl rfl)
theorem BtsT.keep {w w' : World} {v : Value} {bs : List Bt.Bat} (h : BtsT w v bs) (k : Keeps w w') : BtsT w' v bs := by
  obtain ⟨cs, h1, h2, h3⟩ := h
  refine ⟨cs, ?_, (h2.keep (k.stays _)).mono (Nat.le_refl _) k.size, fun g hg => ?_⟩
  · rcases h1 with h1 | ⟨b, off, n, cap, hv, hl, hc⟩
    · exact .inl h1
    · obtain ⟨cur, fz, hh⟩ := h3 b (by rw [hv]; rfl)
      exact .inr ⟨b, off, n, cap, hv, hl, fun i hi => (World.cell?_of_block (a := ⟨b, off + i, none⟩) (k.block b cur _ fz hh (.inr rfl))).trans (hc i hi)⟩
  · obtain ⟨cur, fz, hh⟩ := h3 g hg
    exact ⟨cur, fz, by rw [k.block g cur _ fz hh (.inr rfl)]; exact hh⟩
theorem TxM.keepT {w w' : World} {v : Value} {ls : List (List UInt8)} (h : TxT w v ls) (k : Keeps w w') : TxT w' v ls := (TxM.keep h (k.stays _)).mono (Nat.le_refl _) k.size
theorem BtsT.own {w : World} {base n : Nat} {v : Value} {cs : List Value} {bs : List Bt.Bat} (h : w.ownsRow base 105 3 v n cs) (h2 : BtsM 0 w.heap.size w cs bs) : BtsT w v bs :=
  ⟨cs, FlatAt.own h, h2, fun g hg => by
    rcases h.2 with ⟨rfl, _⟩ | ⟨g', cap, cur, rfl, _, hh, _⟩
    · simp [Value.ownBlock] at hg
    · have : g' = g := Option.some.inj hg
      subst this
      exact ⟨cur, _, hh⟩⟩
theorem BtsT.nil (w : World) (c : Nat) : BtsT w (.slice none 0 c) [] := ⟨[], .inl ⟨_, _, rfl, rfl⟩, trivial, fun g hg => by cases hg⟩
/-- What a call that takes all batches comes to. -/
def TE (ls : List (List UInt8)) (w : World) (e : Ending) (w' : World) : Prop :=
  Below w.heap.size w w' ∧ ((∃ x : Nat, e = .returned (.tuple #[.slice none 0 0, .int .i64 x]) ∧ x ≠ 0 ∧ (Vt.takeAll ls).2 ≠ 0) ∨
    ∃ u bs, e = .returned (.tuple #[u, .int .i64 0]) ∧ Vt.takeAll ls = (bs, 0) ∧ BtsT w' u bs)

set_option maxHeartbeats 2000000 in
theorem peachT (v : Value) (ls : List (List UInt8)) (w : World) (hv : TxAt w v ls) (h4 : ls.length ≤ 4) (hl : ∀ t ∈ ls, t.length ≤ 140737488351232) :
    Calls Try.prog 109 #[v, .func (.func 110) #[] #[]] w (TE ls w) := by
  obtain ⟨i0, hi, hz0, hz1, hz2⟩ := info_parts info_bat
  rcases hv with ⟨a, cap, rfl, rfl⟩ | ⟨b, off, cap, rfl, hc⟩
  · go_enter Try.func109, Try.ntmps109
    go_wp2_with fail
    refine wp_loop_rounds 1 ?_
    rw [rounds_succ]
    go_wp2
    go_ret2
    exact ⟨Below.refl _ _, .inr ⟨_, [], rfl, rfl, BtsT.nil _ _⟩⟩
  have HC := Lib.hid hc
  have HLN := Lib.hid hl
  clear hc hl
  go_enter Try.func109, Try.ntmps109
  go_wp2_with fail
  go_loopw [6, 13] (fun v i wr => ∃ (k : Nat) (acc : List Bt.Bat) (cs : List Value), i = .int .i64 k ∧ k ≤ ls.length ∧ Below w.heap.size w wr ∧ Vt.takeAll (ls.take k) = (acc, 0) ∧ BtsM 0 wr.heap.size wr cs acc ∧ wr.ownsRow w.heap.size 105 3 v k cs) (fun _ i _ => ls.length - (intOf i).toNat)
  case atStart => exact ⟨0, [], [], rfl, by omega, Below.refl _ _, rfl, trivial, ⟨rfl, .inl ⟨rfl, rfl⟩⟩⟩
  case round =>
    obtain ⟨k, acc, cs, rfl, hk, hbel, htk, hbs, hown⟩ := hrel
    have HB := Lib.hid hbel
    have HO := Lib.hid hown
    have HK := Lib.hid htk
    have HS := Lib.hid hbs
    clear hbel hown htk hbs
    by_cases hlt : k < ls.length
    · have c1 := below_cell HB.out (HC.out k hlt)
      have hln := HLN.out _ (List.getElem_mem hlt)
      have hstep : ∀ b, Bt.take ls[k] = (b, 0) → Vt.takeAll (ls.take (k + 1)) = (acc ++ [b], 0) := fun b hb => by
        rw [List.take_succ_eq_append_getElem hlt]; exact Vt.takeAll_snoc _ _ _ _ HK.out hb
      have hbad : (Bt.take ls[k]).2 ≠ 0 → (Vt.takeAll ls).2 ≠ 0 := fun h => Vt.takeAll_bad ls k hlt h
      have HST := Lib.hid hstep
      have HBD := Lib.hid hbad
      clear hstep hbad
      generalize ls[k] = s at *
      obtain ⟨⟨⟨o, q, m⟩, x⟩, hR⟩ : ∃ R, Bt.take s = R := ⟨_, rfl⟩
      have HR := Lib.hid hR
      by_cases hx : x = 0
      · subst hx
        have HST2 := Lib.hid (HST.out _ hR)
        clear hR
        go_wp2_with fail
        refine (pdecC HR.out hln _).mono ?_
        rintro e w1 ⟨u, rfl, hu, ty, g1⟩
        have HM := Lib.hid (TxM.ofT (B := 0) hu ty)
        obtain ⟨au, cu, rfl⟩ := hu.len
        have G1 := Lib.hid (grow_trans HB.out g1)
        have HO1 := Lib.hid (own_keep HO.out g1)
        have HS1 := Lib.hid ((HS.out.keep (Stays.of g1)).mono (Nat.le_refl _) g1.size)
        have hsz := Lib.hid g1.size
        clear g1 hu ty HO HS
        obtain ⟨W2, hW2⟩ : ∃ W2, w1.alloc (.cells #[.int .i64 o, .int .i64 q, .slice au m.length cu] 105) = W2 := ⟨_, rfl⟩
        have HG2 := Lib.hid (show Below w1.heap.size w1 W2 by rw [← hW2]; exact (Below.refl _ _).alloc (Nat.le_refl _) _)
        have HSZ := Lib.hid (show W2.heap.size = w1.heap.size + 1 by rw [← hW2]; simp)
        have HOW := Lib.hid (own_keep HO1.out HG2.out)
        have HXW := Lib.hid hW2
        clear hW2
        go_wp2_with (at_builtin; rw [HXW.out]; refine wpList_append_own _ rfl _ _ 22 rfl w.heap.size 105 i0 (.agg #[.int .i64 0, .int .i64 0, .slice none 0 0]) 3 40 Try.underlying22 hi hz0 hz1 hz2 rfl (by decide) _ _ _ rfl (HOW.out.alloc _) ⟨w1.heap.size + 1, 0, none⟩ 1 1 [.int .i64 o, .int .i64 q, .slice au m.length cu] rfl rfl ?c1 ?c2 ?c3 ?c4 ?c5 ?_)
        case c1 => exact new3 W2 (w1.heap.size + 1) HSZ.out.symm _ _ _
        case c2 => intro u hu; simp at hu; rcases hu with rfl | rfl | rfl <;> rfl
        case c3 => unfold maxLen; omega
        case c4 => omega
        case c5 => have := G1.out.size; have := HSZ.out; simp; omega
        intro v' w2 hown2 hgrow _
        have g13 : Below w1.heap.size w1 (W2.alloc (.cells #[.int .i64 o, .int .i64 q, .slice au m.length cu] 105)) := HG2.out.alloc HG2.out.size _
        have st : Stays 0 (W2.alloc (.cells #[.int .i64 o, .int .i64 q, .slice au m.length cu] 105)).heap.size (W2.alloc (.cells #[.int .i64 o, .int .i64 q, .slice au m.length cu] 105)) w2 := Stays.row (HOW.out.alloc _) (Nat.zero_le _) hgrow (Nat.le_refl _) (by decide)
        have hm2 : TxM 0 w2.heap.size w2 (.slice au m.length cu) m := (((HM.out.keep (Stays.of g13)).mono (Nat.le_refl _) g13.size).keep st).mono (Nat.le_refl _) hgrow.size
        have hs2 : BtsM 0 w2.heap.size w2 cs acc := (((HS1.out.keep (Stays.of g13)).mono (Nat.le_refl _) g13.size).keep st).mono (Nat.le_refl _) hgrow.size
        have HS2 := Lib.hid (show BtsM 0 w2.heap.size w2 (cs ++ [.int .i64 o, .int .i64 q, .slice au m.length cu]) (acc ++ [(o, q, m)]) from BtsM.app (ds := [.int .i64 o, .int .i64 q, .slice au m.length cu]) (ys := [(o, q, m)]) (show _ ∧ _ from ⟨rfl, rfl, hm2, trivial⟩) hs2)
        have HO3 := Lib.hid hown2
        have hbel2 : Below w.heap.size w w2 := ((G1.out.trans (HG2.out.mono G1.out.size)).alloc (by have := G1.out.size; have := HSZ.out; omega) _).grown hgrow (by have := G1.out.size; have := HSZ.out; simp; omega) (fun k hk => (HO1.out.lt k hk).1)
        have HB2 := Lib.hid hbel2
        clear hown2 hgrow HO1 hbel2 g13 st hm2 hs2 HOW HG2 HXW HM HS1
        go_wp2
        go_roundw
        case rel => exact ⟨k + 1, _, _, by go_num, by omega, HB2.out, HST2.out, HS2.out, HO3.out⟩
        case measure => simp [intOf]; omega
      · have t1 : ((x : Int) != 0) = true := by rw [bne_iff_ne]; omega
        have HX := Lib.hid hx
        have HBD2 := Lib.hid (HBD.out (by rw [hR]; exact hx))
        clear hR hx
        go_wp2_with fail
        refine (pdecC HR.out hln _).mono ?_
        rintro e w1 ⟨u, rfl, hu, ty, g1⟩
        obtain ⟨au, cu, rfl⟩ := hu.len
        have G1 := Lib.hid (grow_trans HB.out g1)
        clear g1 hu ty
        go_wp2
        go_ret2
        exact ⟨G1.out.alloc G1.out.size _, .inl ⟨x, rfl, HX.out, HBD2.out⟩⟩
    · obtain rfl : k = ls.length := by omega
      have hT := HK.out
      rw [List.take_length] at hT
      have HT := Lib.hid hT
      clear hT
      go_wp2
      go_ret2
      exact ⟨HB.out, .inr ⟨_, acc, rfl, HT.out, BtsT.own HO.out HS.out⟩⟩
end Go.Proofs.Ytbkpekpajeaacaa
/- Package vertex as it landed: the parts of bytes. -/
namespace Dg
theorem texts_len_le (l : List (List UInt8)) : l.length ≤ (texts l).length := by
  induction l with
  | nil => simp [texts]
  | cons t l ih =>
    have : 1 ≤ (num t.length).length := by simp [num]
    simp only [texts, text, List.length_append, List.length_cons]
    omega
end Dg
namespace Vt
open Dg
theorem chain {v : Vtx} {n : Int} {s : List UInt8} (h : may v n = true) (hb : bytes v = s) :
    ∃ s1 s2 s3 s4 s5, takeNum s = (v.1.toNat, s1, 0) ∧ takeNum s1 = (v.2.1.toNat, s2, 0) ∧
      (∀ m : Int, 300 ≤ m ∨ (s2.length : Int) ≤ m → takeRow s2 4 m = (v.2.2.1.map Bt.bytes, s3, 0)) ∧ takeAll (v.2.2.1.map Bt.bytes) = (v.2.2.1, 0) ∧
      (∀ m : Int, n ≤ m → takeRow s3 m 32 = (v.2.2.2.1, s4, 0)) ∧ takeNum s4 = (v.2.2.2.2.1.toNat, s5, 0) ∧ takeNum s5 = (v.2.2.2.2.2.toNat, [], 0) := by
  have := parts h []
  rwa [List.append_nil, hb] at this
/-- The bytes have these parts: whichever vertex that may be has these bytes, it is this one. -/
theorem only {s s1 s2 s3 s4 s5 : List UInt8} {n : Int} {a r x y : Nat} {l : List (List UInt8)} {bs : List Bt.Bat} {ps : List (List UInt8)} {m m' : Int}
    (h1 : takeNum s = (a, s1, 0)) (h2 : takeNum s1 = (r, s2, 0)) (h3 : takeRow s2 4 m = (l, s3, 0)) (hm : 300 ≤ m ∨ (s2.length : Int) ≤ m) (h4 : takeAll l = (bs, 0)) (h5 : takeRow s3 m' 32 = (ps, s4, 0)) (hm' : n ≤ m') (h6 : takeNum s4 = (x, s5, 0)) (h7 : takeNum s5 = (y, [], 0))
    (u : Vtx) (hu : may u n = true) (hb : bytes u = s) : u = ((a : Int), (r : Int), bs, ps, (x : Int), (y : Int)) := by
  obtain ⟨t1, t2, t3, t4, t5, k1, k2, k3, k4, k5, k6, k7⟩ := chain hu hb
  have f := fits hu
  rw [h1] at k1
  simp only [Prod.mk.injEq, and_true] at k1
  obtain ⟨e1, rfl⟩ := k1
  rw [h2] at k2
  simp only [Prod.mk.injEq, and_true] at k2
  obtain ⟨e2, rfl⟩ := k2
  have k3' := k3 m hm
  rw [h3] at k3'
  simp only [Prod.mk.injEq, and_true] at k3'
  obtain ⟨rfl, rfl⟩ := k3'
  rw [h4] at k4
  simp only [Prod.mk.injEq, and_true] at k4
  have k5' := k5 m' hm'
  rw [h5] at k5'
  simp only [Prod.mk.injEq, and_true] at k5'
  obtain ⟨e5, rfl⟩ := k5'
  rw [h6] at k6
  simp only [Prod.mk.injEq, and_true] at k6
  obtain ⟨e6, rfl⟩ := k6
  rw [h7] at k7
  simp only [Prod.mk.injEq, and_true] at k7
  have a1 := f.a1
  have r1 := f.r1
  have x1 := f.x1
  have y1 := f.y1
  obtain ⟨ua, ur, ub, up, ux, uy⟩ := u
  simp only [] at *
  obtain rfl : ua = a := by omega
  obtain rfl : ur = r := by omega
  obtain rfl : ux = x := by omega
  obtain rfl : uy = y := by omega
  rw [k4, e5]
end Vt
namespace Go.Proofs.Ytbkpekpajeaacaa
open Go.RowKit
set_option maxRecDepth 100000

/-- A number beyond every int turns negative: no vertex has it. -/
theorem vwrap_key (n : Nat) (h : n < 18446744073709551616) : wrap64 (n : Int) = (n : Int) ∨ (wrap64 (n : Int) < 0 ∧ 9223372036854775808 ≤ n) := by
  rw [wrap64]; omega
theorem vwraps {n : Int} {a r x y : Nat} {bs : List Bt.Bat} {ps : List (List UInt8)} (ha : a < 18446744073709551616) (hr : r < 18446744073709551616) (hx : x < 18446744073709551616) (hy : y < 18446744073709551616)
    (h : Vt.may (wrap64 (a : Int), wrap64 (r : Int), bs, ps, wrap64 (x : Int), wrap64 (y : Int)) n = true ∨ Vt.may ((a : Int), (r : Int), bs, ps, (x : Int), (y : Int)) n = true) :
    (wrap64 (a : Int), wrap64 (r : Int), bs, ps, wrap64 (x : Int), wrap64 (y : Int)) = (((a : Int), (r : Int), bs, ps, (x : Int), (y : Int)) : Vt.Vtx) := by
  have w1 := vwrap_key a ha
  have w2 := vwrap_key r hr
  have w3 := vwrap_key x hx
  have w4 := vwrap_key y hy
  rcases h with h | h
  · have f := Vt.fits h
    have f1 := f.a1
    have f2 := f.r1
    have f3 := f.x1
    have f4 := f.y1
    simp only [] at f1 f2 f3 f4
    rw [show wrap64 (a : Int) = a by omega, show wrap64 (r : Int) = r by omega, show wrap64 (x : Int) = x by omega, show wrap64 (y : Int) = y by omega]
  · have f := Vt.fits h
    have f1 := f.a2
    have f2 := f.r2
    have f3 := f.x2
    have f4 := f.y2
    have f5 := f.n2
    simp only [] at f1 f2 f3 f4
    rw [show wrap64 (a : Int) = a by omega, show wrap64 (r : Int) = r by omega, show wrap64 (x : Int) = x by omega, show wrap64 (y : Int) = y by omega]

section
variable {W W' : World} {R A n : Nat} {a r x y a' r' x' y' : Int} {b p b' p' : Value}
theorem VBox.sets (h : VBox W R a r b p x y) (a' r' : Int) (b' p' : Value) (x' y' : Int) :
    VBox ((((((W.setCell ⟨R, 0, none⟩ (.int .i64 a')).setCell ⟨R, 1, none⟩ (.int .i64 r')).setCell ⟨R, 2, none⟩ b').setCell ⟨R, 3, none⟩ p').setCell ⟨R, 4, none⟩ (.int .i64 x')).setCell ⟨R, 5, none⟩ (.int .i64 y')) R a' r' b' p' x' y' := by
  have h0 := heap_setQ (k := 0) h (.int .i64 a')
  have h1 := heap_setQ (k := 1) h0 (.int .i64 r')
  have h2 := heap_setQ (k := 2) h1 b'
  have h3 := heap_setQ (k := 3) h2 p'
  have h4 := heap_setQ (k := 4) h3 (.int .i64 x')
  have h5 := heap_setQ (k := 5) h4 (.int .i64 y')
  exact h5
theorem Keeps.vsets (h : VBox W R a r b p x y) (a' r' : Int) (b' p' : Value) (x' y' : Int) :
    Keeps W ((((((W.setCell ⟨R, 0, none⟩ (.int .i64 a')).setCell ⟨R, 1, none⟩ (.int .i64 r')).setCell ⟨R, 2, none⟩ b').setCell ⟨R, 3, none⟩ p').setCell ⟨R, 4, none⟩ (.int .i64 x')).setCell ⟨R, 5, none⟩ (.int .i64 y')) := by
  have d : 27 ≠ 9 ∧ 27 ≠ 105 := by decide
  have h0 := heap_setQ (k := 0) h (.int .i64 a')
  have h1 := heap_setQ (k := 1) h0 (.int .i64 r')
  have h2 := heap_setQ (k := 2) h1 b'
  have h3 := heap_setQ (k := 3) h2 p'
  have h4 := heap_setQ (k := 4) h3 (.int .i64 x')
  exact (((((Keeps.set h d 0 _).trans (Keeps.set h0 d 1 _)).trans (Keeps.set h1 d 2 _)).trans (Keeps.set h2 d 3 _)).trans (Keeps.set h3 d 4 _)).trans (Keeps.set h4 d 5 _)
theorem below_vsets (h : Below n W W') (hR : n ≤ R) (a' r' : Int) (b' p' : Value) (x' y' : Int) :
    Below n W ((((((W'.setCell ⟨R, 0, none⟩ (.int .i64 a')).setCell ⟨R, 1, none⟩ (.int .i64 r')).setCell ⟨R, 2, none⟩ b').setCell ⟨R, 3, none⟩ p').setCell ⟨R, 4, none⟩ (.int .i64 x')).setCell ⟨R, 5, none⟩ (.int .i64 y')) :=
  below_setQ (below_setQ (below_setQ (below_setQ (below_setQ (below_setQ h hR _ _) hR _ _) hR _ _) hR _ _) hR _ _) hR _ _
theorem Keeps.only (h : UBox W A a r x y) (ho : Only A W W') : Keeps W W' := by
  refine ⟨(ho.below 0 (by omega)).size, fun k cur t fz e ht => ho.other k (fun ek => ?_)⟩
  subst ek
  have h' : W.heap[k]? = _ := h
  rw [e] at h'
  injection h' with h'
  injection h' with _ h' _
  subst h'
  rcases ht with h' | h'
  · exact absurd h' (by decide)
  · exact absurd h' (by decide)
end

/-- What the taking apart comes to. -/
def DO (s : List UInt8) (n : Int) (w : World) (e : Ending) (w' : World) : Prop :=
  Below w.heap.size w w' ∧ ((∃ x : Nat, e = .returned (.tuple #[vtxV 0 0 (.slice none 0 0) (.slice none 0 0) 0 0, .int .i64 x]) ∧ x ≠ 0 ∧ ∀ v, Vt.may v n = true → Vt.bytes v ≠ s) ∨
    ∃ (v : Vt.Vtx) (bv pv : Value), e = .returned (.tuple #[vtxV v.1 v.2.1 bv pv v.2.2.2.2.1 v.2.2.2.2.2, .int .i64 0]) ∧ BtsT w' bv v.2.2.1 ∧ TxT w' pv v.2.2.2.1 ∧ v.2.2.1.length ≤ 4 ∧ Vt.Small v.2.2.1 ∧ v.2.2.2.1.length ≤ 140737488351232 ∧
      (∀ u, Vt.may u n = true → Vt.bytes u = s → u = v) ∧ (Vt.may v n = true → Vt.bytes v = s))

set_option maxHeartbeats 8000000 in
theorem pdecode (s : List UInt8) (n : Int) (hs : s.length ≤ 140737488351232) (hnb : n ≤ 4294967296 ∨ s.length ≤ 4294967296) (n1 : -9223372036854775808 ≤ n) (n2 : n ≤ 9223372036854775807) (w : World) :
    Calls Try.prog 77 #[tx s, .int .i64 n] w (DO s n w) := by
  have V0 := Lib.hid ((VBox.new w 0 0 (.slice none 0 0) (.slice none 0 0) 0 0).alloc (.cells #[.int .u64 0, .int .u64 0, .int .u64 0, .int .u64 0] 149))
  have hu0 := UBox.new (w.alloc (.cells #[.int .i64 0, .int .i64 0, .slice none 0 0, .slice none 0 0, .int .i64 0, .int .i64 0] 27)) 0 0 0 0
  rw [World.size_alloc] at hu0
  have U0 := Lib.hid hu0
  have G0 := Lib.hid (show Below w.heap.size w ((w.alloc (.cells #[.int .i64 0, .int .i64 0, .slice none 0 0, .slice none 0 0, .int .i64 0, .int .i64 0] 27)).alloc (.cells #[.int .u64 0, .int .u64 0, .int .u64 0, .int .u64 0] 149)) from ((Below.refl _ _).alloc (Nat.le_refl _) _).alloc (by simp) _)
  have hne : w.heap.size ≠ w.heap.size + 1 := by omega
  have HNB := Lib.hid hnb
  clear hu0 hnb
  go_enter Try.func77, Try.ntmps77
  go_wp2_with fail
  refine (ptakeN0 s hs _ 4 0 0 0 0 _ U0.out).mono ?_
  rintro e w1 ⟨ho, hcase⟩
  have v1 := Lib.hid (show VBox w1 w.heap.size 0 0 (.slice none 0 0) (.slice none 0 0) 0 0 from (ho.other _ hne).trans V0.out)
  have G1 := Lib.hid (show Below w.heap.size w w1 from G0.out.trans (ho.below _ (by omega)))
  obtain ⟨c0, c1, c2, c3, c4, c5⟩ := v1.out.cells
  obtain ⟨f0, f1, f2, f3, f4, f5⟩ := v1.out.free
  clear ho
  rcases hcase with ⟨x, rfl, hx, hbad⟩ | ⟨a, r, s1, s2, rfl, h1, h2, hub⟩
  · have t1 : ((x : Int) != 0) = true := by rw [bne_iff_ne]; omega
    have HX := Lib.hid hx
    have HN := Lib.hid (show ∀ v, Vt.may v n = true → Vt.bytes v ≠ s from fun u hu e => by
      obtain ⟨t1, t2, t3, t4, t5, k1, k2, k3, k4, k5, k6, k7⟩ := Vt.chain hu e
      rcases hbad with h | h
      · rw [k1] at h; exact h rfl
      · rw [k1] at h; simp only [] at h; rw [k2] at h; exact h rfl)
    clear hx hbad
    clear c0 c1 c2 c3 c4 c5 f0 f1 f2 f3 f4 f5
    obtain ⟨c0, c1, c2, c3, c4, c5⟩ := v1.out.cells
    obtain ⟨f0, f1, f2, f3, f4, f5⟩ := v1.out.free
    go_wp2_with fail
    refine bodyPost_ret (v := .tuple #[vtxV 0 0 (.slice none 0 0) (.slice none 0 0) 0 0, .int .i64 x]) ?_ rfl ?_
    · obtain ⟨d0, d1, d2, d3, d4, d5⟩ := (v1.out.sets 0 0 (.slice none 0 0) (.slice none 0 0) 0 0).cells
      simp [results, Try.results77, go_sem, d0, d1, d2, d3, d4, d5]
    · exact ⟨below_vsets G1.out (Nat.le_refl _) _ _ _ _ _ _, .inl ⟨_, rfl, HX.out, HN.out⟩⟩
  have ha : a < 18446744073709551616 := by have := Dg.takeNum_bound s; rw [h1] at this; exact this
  have hr : r < 18446744073709551616 := by have := Dg.takeNum_bound s1; rw [h2] at this; exact this
  have l1 : s1.length ≤ s.length := by have := Dg.takeNum_rest s; rw [h1] at this; exact this
  have l2 : s2.length ≤ s1.length := by have := Dg.takeNum_rest s1; rw [h2] at this; exact this
  have HA := Lib.hid ha
  have HRb := Lib.hid hr
  have H1 := Lib.hid h1
  have H2 := Lib.hid h2
  have U1 := Lib.hid hub
  obtain ⟨l, s3, z3, h3⟩ : ∃ l s3 z3, Dg.takeRow s2 4 s2.length = (l, s3, z3) := ⟨_, _, _, rfl⟩
  have l3 : s3.length ≤ s2.length := by have := (Dg.takeRow_len s2 4 s2.length).2; rw [h3] at this; exact this
  have H3 := Lib.hid h3
  clear h1 h2 h3 hub ha hr
  go_wp2_with fail
  refine (takeRowG_eq H3.out (by omega) (.inl (by omega)) (by omega) (by omega) (by omega) (by omega) _).mono ?_
  rintro e w2 ⟨lv, rfl, hlv, hty, g2⟩
  have v2 := Lib.hid (v1.out.kept g2)
  have u2 := Lib.hid (U1.out.kept g2)
  have G2 := Lib.hid (grow_trans G1.out g2)
  have LV := Lib.hid hlv
  clear g2 hlv hty
  by_cases hz3 : z3 = 0
  case neg =>
    have t1 : ((z3 : Int) != 0) = true := by rw [bne_iff_ne]; omega
    have HX := Lib.hid hz3
    have HN := Lib.hid (show ∀ v, Vt.may v n = true → Vt.bytes v ≠ s from fun u hu e => by
      obtain ⟨t1, t2, t3, t4, t5, k1, k2, k3, k4, k5, k6, k7⟩ := Vt.chain hu e
      rw [H1.out] at k1; simp only [Prod.mk.injEq, and_true] at k1; obtain ⟨_, rfl⟩ := k1
      rw [H2.out] at k2; simp only [Prod.mk.injEq, and_true] at k2; obtain ⟨_, rfl⟩ := k2
      have k3' := k3 _ (.inr (Int.le_refl _))
      rw [H3.out] at k3'; simp only [Prod.mk.injEq] at k3'; exact hz3 k3'.2.2)
    clear hz3
    clear c0 c1 c2 c3 c4 c5 f0 f1 f2 f3 f4 f5
    obtain ⟨c0, c1, c2, c3, c4, c5⟩ := v2.out.cells
    obtain ⟨f0, f1, f2, f3, f4, f5⟩ := v2.out.free
    go_wp2_with fail
    refine bodyPost_ret (v := .tuple #[vtxV 0 0 (.slice none 0 0) (.slice none 0 0) 0 0, .int .i64 z3]) ?_ rfl ?_
    · obtain ⟨d0, d1, d2, d3, d4, d5⟩ := (v2.out.sets 0 0 (.slice none 0 0) (.slice none 0 0) 0 0).cells
      simp [results, Try.results77, go_sem, d0, d1, d2, d3, d4, d5]
    · exact ⟨below_vsets G2.out (Nat.le_refl _) _ _ _ _ _ _, .inl ⟨_, rfl, HX.out, HN.out⟩⟩
  subst hz3
  obtain ⟨_, b4, _, b5, _⟩ := Dg.takeRow_back _ _ _ _ _ H3.out
  have B4 := Lib.hid (show l.length ≤ 4 by omega)
  have B5 := Lib.hid (show ∀ t ∈ l, t.length ≤ 140737488351232 from fun t ht => by have := b5 t ht; omega)
  clear b4 b5
  obtain ⟨al, cl, rfl⟩ := LV.out.len
  go_wp2_with fail
  refine (peachT _ l _ LV.out B4.out B5.out).mono ?_
  rintro e w3 ⟨g3, hcase⟩
  have v3 := Lib.hid (v2.out.kept g3)
  have u3 := Lib.hid (u2.out.kept g3)
  have G3 := Lib.hid (grow_trans G2.out g3)
  clear g3
  rcases hcase with ⟨x, rfl, hx, hbad⟩ | ⟨bv, bs, rfl, h4, hbts⟩
  · have t1 : ((x : Int) != 0) = true := by rw [bne_iff_ne]; omega
    have HX := Lib.hid hx
    have HN := Lib.hid (show ∀ v, Vt.may v n = true → Vt.bytes v ≠ s from fun u hu e => by
      obtain ⟨t1, t2, t3, t4, t5, k1, k2, k3, k4, k5, k6, k7⟩ := Vt.chain hu e
      rw [H1.out] at k1; simp only [Prod.mk.injEq, and_true] at k1; obtain ⟨_, rfl⟩ := k1
      rw [H2.out] at k2; simp only [Prod.mk.injEq, and_true] at k2; obtain ⟨_, rfl⟩ := k2
      have k3' := k3 _ (.inr (Int.le_refl _))
      rw [H3.out] at k3'; simp only [Prod.mk.injEq, and_true] at k3'; obtain ⟨rfl, _⟩ := k3'
      rw [k4] at hbad; exact hbad rfl)
    clear hx hbad
    clear c0 c1 c2 c3 c4 c5 f0 f1 f2 f3 f4 f5
    obtain ⟨c0, c1, c2, c3, c4, c5⟩ := v3.out.cells
    obtain ⟨f0, f1, f2, f3, f4, f5⟩ := v3.out.free
    go_wp2_with fail
    refine bodyPost_ret (v := .tuple #[vtxV 0 0 (.slice none 0 0) (.slice none 0 0) 0 0, .int .i64 x]) ?_ rfl ?_
    · obtain ⟨d0, d1, d2, d3, d4, d5⟩ := (v3.out.sets 0 0 (.slice none 0 0) (.slice none 0 0) 0 0).cells
      simp [results, Try.results77, go_sem, d0, d1, d2, d3, d4, d5]
    · exact ⟨below_vsets G3.out (Nat.le_refl _) _ _ _ _ _ _, .inl ⟨_, rfl, HX.out, HN.out⟩⟩
  have H4 := Lib.hid h4
  have BT3 := Lib.hid hbts
  have lbs := Vt.takeAll_len l bs h4
  have LBS := Lib.hid (show bs.length ≤ 4 by have := B4.out; omega)
  have hsm : Vt.Small bs := by
    intro b hb
    have e := Vt.takeAll_back l bs h4
    have hl : (Bt.bytes b).length ≤ 140737488351232 := B5.out _ (by rw [← e]; exact List.mem_map_of_mem hb)
    have h1 := Dg.texts_len_le b.2.2
    simp only [Bt.bytes, Dg.row, List.length_append] at hl
    omega
  have HSM := Lib.hid hsm
  clear h4 hbts lbs hsm
  obtain ⟨ps, s4, z5, h5⟩ : ∃ ps s4 z5, Dg.takeRow s3 n 32 = (ps, s4, z5) := ⟨_, _, _, rfl⟩
  have l4 : s4.length ≤ s3.length := by have := (Dg.takeRow_len s3 n 32).2; rw [h5] at this; exact this
  have l5 : ps.length ≤ s3.length := by have := (Dg.takeRow_len s3 n 32).1; rw [h5] at this; exact this
  have H5 := Lib.hid h5
  clear h5
  obtain ⟨ab, cb, rfl⟩ := BT3.out.at.len
  go_wp2_with fail
  refine (takeRowG_eq H5.out (by omega) (by rcases HNB.out with h | h <;> omega) n1 n2 (by omega) (by omega) _).mono ?_
  rintro e w4 ⟨pv, rfl, hpv, hty, g4⟩
  have v4 := Lib.hid (v3.out.kept g4)
  have u4 := Lib.hid (u3.out.kept g4)
  have G4 := Lib.hid (grow_trans G3.out g4)
  have BT4 := Lib.hid (BT3.out.keep (Keeps.of g4))
  have PT4 := Lib.hid (show TxT w4 pv ps from TxM.ofT hpv hty)
  obtain ⟨ap, cp, rfl⟩ := hpv.len
  clear g4 hpv hty
  by_cases hz5 : z5 = 0
  case neg =>
    have t1 : ((z5 : Int) != 0) = true := by rw [bne_iff_ne]; omega
    have HX := Lib.hid hz5
    have HN := Lib.hid (show ∀ v, Vt.may v n = true → Vt.bytes v ≠ s from fun u hu e => by
      obtain ⟨t1, t2, t3, t4, t5, k1, k2, k3, k4, k5, k6, k7⟩ := Vt.chain hu e
      rw [H1.out] at k1; simp only [Prod.mk.injEq, and_true] at k1; obtain ⟨_, rfl⟩ := k1
      rw [H2.out] at k2; simp only [Prod.mk.injEq, and_true] at k2; obtain ⟨_, rfl⟩ := k2
      have k3' := k3 _ (.inr (Int.le_refl _))
      rw [H3.out] at k3'; simp only [Prod.mk.injEq, and_true] at k3'; obtain ⟨rfl, rfl⟩ := k3'
      have k5' := k5 n (Int.le_refl _)
      rw [H5.out] at k5'; simp only [Prod.mk.injEq] at k5'; exact hz5 k5'.2.2)
    clear hz5
    clear c0 c1 c2 c3 c4 c5 f0 f1 f2 f3 f4 f5
    obtain ⟨c0, c1, c2, c3, c4, c5⟩ := v4.out.cells
    obtain ⟨f0, f1, f2, f3, f4, f5⟩ := v4.out.free
    go_wp2_with fail
    refine bodyPost_ret (v := .tuple #[vtxV 0 0 (.slice none 0 0) (.slice none 0 0) 0 0, .int .i64 z5]) ?_ rfl ?_
    · obtain ⟨d0, d1, d2, d3, d4, d5⟩ := (v4.out.sets 0 0 (.slice none 0 0) (.slice none 0 0) 0 0).cells
      simp [results, Try.results77, go_sem, d0, d1, d2, d3, d4, d5]
    · exact ⟨below_vsets G4.out (Nat.le_refl _) _ _ _ _ _ _, .inl ⟨_, rfl, HX.out, HN.out⟩⟩
  subst hz5
  go_wp2_with fail
  refine (ptakeN2 s4 (by omega) _ 2 _ _ _ _ _ u4.out).mono ?_
  rintro e w5 ⟨ho, hcase⟩
  have v5 := Lib.hid (show VBox w5 w.heap.size 0 0 (.slice none 0 0) (.slice none 0 0) 0 0 from (ho.other _ hne).trans v4.out)
  have G5 := Lib.hid (show Below w.heap.size w w5 from G4.out.trans (ho.below _ (by omega)))
  have BT5 := Lib.hid (BT4.out.keep (Keeps.only u4.out ho))
  have PT5 := Lib.hid (PT4.out.keepT (Keeps.only u4.out ho))
  clear ho
  rcases hcase with ⟨x, rfl, hx, hbad⟩ | ⟨x, y, s5, s6, rfl, h6, h7, hub⟩
  · have t1 : ((x : Int) != 0) = true := by rw [bne_iff_ne]; omega
    have HN := Lib.hid (show ∀ v, Vt.may v n = true → Vt.bytes v ≠ s from fun u hu e => by
      obtain ⟨t1, t2, t3, t4, t5, k1, k2, k3, k4, k5, k6, k7⟩ := Vt.chain hu e
      rw [H1.out] at k1; simp only [Prod.mk.injEq, and_true] at k1; obtain ⟨_, rfl⟩ := k1
      rw [H2.out] at k2; simp only [Prod.mk.injEq, and_true] at k2; obtain ⟨_, rfl⟩ := k2
      have k3' := k3 _ (.inr (Int.le_refl _))
      rw [H3.out] at k3'; simp only [Prod.mk.injEq, and_true] at k3'; obtain ⟨rfl, rfl⟩ := k3'
      have k5' := k5 n (Int.le_refl _)
      rw [H5.out] at k5'; simp only [Prod.mk.injEq, and_true] at k5'; obtain ⟨_, rfl⟩ := k5'
      rcases hbad with h | h
      · rw [k6] at h; exact h rfl
      · rw [k6] at h; simp only [] at h; rw [k7] at h; exact h rfl)
    clear hx hbad
    clear c0 c1 c2 c3 c4 c5 f0 f1 f2 f3 f4 f5
    obtain ⟨c0, c1, c2, c3, c4, c5⟩ := v5.out.cells
    obtain ⟨f0, f1, f2, f3, f4, f5⟩ := v5.out.free
    go_wp2_with fail
    refine bodyPost_ret (v := .tuple #[vtxV 0 0 (.slice none 0 0) (.slice none 0 0) 0 0, .int .i64 3]) ?_ rfl ?_
    · obtain ⟨d0, d1, d2, d3, d4, d5⟩ := (v5.out.sets 0 0 (.slice none 0 0) (.slice none 0 0) 0 0).cells
      simp [results, Try.results77, go_sem, d0, d1, d2, d3, d4, d5]
    · exact ⟨below_vsets G5.out (Nat.le_refl _) _ _ _ _ _ _, .inl ⟨_, rfl, (show (3 : Nat) ≠ 0 by omega), HN.out⟩⟩
  have H6 := Lib.hid h6
  have H7 := Lib.hid h7
  have hxb : x < 18446744073709551616 := by have := Dg.takeNum_bound s4; rw [h6] at this; exact this
  have hyb : y < 18446744073709551616 := by have := Dg.takeNum_bound s5; rw [h7] at this; exact this
  have XB := Lib.hid hxb
  have YB := Lib.hid hyb
  have U5 := Lib.hid hub
  clear h6 h7 hxb hyb hub
  cases s6 with
  | cons q0 qs =>
    have HN := Lib.hid (show ∀ v, Vt.may v n = true → Vt.bytes v ≠ s from fun u hu e => by
      obtain ⟨t1, t2, t3, t4, t5, k1, k2, k3, k4, k5, k6, k7⟩ := Vt.chain hu e
      rw [H1.out] at k1; simp only [Prod.mk.injEq, and_true] at k1; obtain ⟨_, rfl⟩ := k1
      rw [H2.out] at k2; simp only [Prod.mk.injEq, and_true] at k2; obtain ⟨_, rfl⟩ := k2
      have k3' := k3 _ (.inr (Int.le_refl _))
      rw [H3.out] at k3'; simp only [Prod.mk.injEq, and_true] at k3'; obtain ⟨rfl, rfl⟩ := k3'
      have k5' := k5 n (Int.le_refl _)
      rw [H5.out] at k5'; simp only [Prod.mk.injEq, and_true] at k5'; obtain ⟨_, rfl⟩ := k5'
      rw [H6.out] at k6; simp only [Prod.mk.injEq, and_true] at k6; obtain ⟨_, rfl⟩ := k6
      rw [H7.out] at k7; simp only [Prod.mk.injEq] at k7; cases k7.2.1)
    clear c0 c1 c2 c3 c4 c5 f0 f1 f2 f3 f4 f5
    obtain ⟨c0, c1, c2, c3, c4, c5⟩ := v5.out.cells
    obtain ⟨f0, f1, f2, f3, f4, f5⟩ := v5.out.free
    go_wp2_with fail
    refine bodyPost_ret (v := .tuple #[vtxV 0 0 (.slice none 0 0) (.slice none 0 0) 0 0, .int .i64 3]) ?_ rfl ?_
    · obtain ⟨d0, d1, d2, d3, d4, d5⟩ := (v5.out.sets 0 0 (.slice none 0 0) (.slice none 0 0) 0 0).cells
      simp [results, Try.results77, go_sem, d0, d1, d2, d3, d4, d5]
    · exact ⟨below_vsets G5.out (Nat.le_refl _) _ _ _ _ _ _, .inl ⟨_, rfl, (show (3 : Nat) ≠ 0 by omega), HN.out⟩⟩
  | nil =>
    have hval := vwraps (n := n) (bs := bs) (ps := ps) HA.out HRb.out XB.out YB.out
    have honly := fun u hu e => Vt.only (n := n) H1.out H2.out H3.out (.inr (Int.le_refl _)) H4.out H5.out (Int.le_refl _) H6.out H7.out u hu e
    have hwhole := Vt.whole H1.out H2.out H3.out H4.out H5.out H6.out H7.out
    have HV := Lib.hid (show ∀ u, Vt.may u n = true → Vt.bytes u = s → u = (wrap64 (a : Int), wrap64 (r : Int), bs, ps, wrap64 (x : Int), wrap64 (y : Int)) from fun u hu e => by
      have h := honly u hu e
      rw [h] at hu
      rw [h]; exact (hval (.inr hu)).symm)
    have HW := Lib.hid (show Vt.may (wrap64 (a : Int), wrap64 (r : Int), bs, ps, wrap64 (x : Int), wrap64 (y : Int)) n = true → Vt.bytes (wrap64 (a : Int), wrap64 (r : Int), bs, ps, wrap64 (x : Int), wrap64 (y : Int)) = s from fun h => by
      rw [hval (.inl h)]; exact hwhole)
    have LPS := Lib.hid (show ps.length ≤ 140737488351232 by omega)
    clear hval honly hwhole
    obtain ⟨wa, hwa⟩ : ∃ z, wrap64 (a : Int) = z := ⟨_, rfl⟩
    obtain ⟨wr, hwr⟩ : ∃ z, wrap64 (r : Int) = z := ⟨_, rfl⟩
    obtain ⟨wx, hwx⟩ : ∃ z, wrap64 (x : Int) = z := ⟨_, rfl⟩
    obtain ⟨wy, hwy⟩ : ∃ z, wrap64 (y : Int) = z := ⟨_, rfl⟩
    rw [hwa, hwr, hwx, hwy] at HV HW
    have v6 := Lib.hid (v5.out.alloc (.cells #[.int .i64 wx, .int .i64 wy] 25))
    have u6 := Lib.hid (U5.out.kept ((Below.refl _ _).alloc (Nat.le_refl _) (.cells #[.int .i64 wx, .int .i64 wy] 25)))
    have G6 := Lib.hid (G5.out.alloc G5.out.size (.cells #[.int .i64 wx, .int .i64 wy] 25))
    have K6 := Lib.hid (Keeps.of ((Below.refl w5.heap.size w5).alloc (Nat.le_refl _) (.cells #[.int .i64 wx, .int .i64 wy] 25)))
    obtain ⟨k0, k1, k2, k3, _⟩ := U5.out.facts
    obtain ⟨k4, k5, k6, k7, _⟩ := u6.out.facts
    clear c0 c1 c2 c3 c4 c5 f0 f1 f2 f3 f4 f5
    obtain ⟨c0, c1, c2, c3, c4, c5⟩ := v6.out.cells
    obtain ⟨f0, f1, f2, f3, f4, f5⟩ := v6.out.free
    go_wp2_with fail
    refine bodyPost_ret (v := .tuple #[vtxV wa wr (.slice ab bs.length cb) (.slice ap ps.length cp) wx wy, .int .i64 0]) ?_ rfl ?_
    · obtain ⟨d0, d1, d2, d3, d4, d5⟩ := (v6.out.sets wa wr (.slice ab bs.length cb) (.slice ap ps.length cp) wx wy).cells
      simp [results, Try.results77, go_sem, d0, d1, d2, d3, d4, d5]
    · have K := K6.out.trans (Keeps.vsets v6.out wa wr (.slice ab bs.length cb) (.slice ap ps.length cp) wx wy)
      exact ⟨below_vsets G6.out (Nat.le_refl _) _ _ _ _ _ _, .inr ⟨(wa, wr, bs, ps, wx, wy), _, _, rfl, BT5.out.keep K, PT5.out.keepT K, LBS.out, HSM.out, LPS.out, HV.out, HW.out⟩⟩
end Go.Proofs.Ytbkpekpajeaacaa
/- Package vertex as it landed: Take. -/
namespace Go.Proofs.Ytbkpekpajeaacaa
open Go.RowKit
set_option maxRecDepth 100000

/-- What a call that takes a vertex comes to. -/
def TV (R : Vt.Vtx × Nat) (w : World) (e : Ending) (w' : World) : Prop :=
  ∃ bv pv, e = .returned (.tuple #[vtxV R.1.1 R.1.2.1 bv pv R.1.2.2.2.2.1 R.1.2.2.2.2.2, .int .i64 R.2]) ∧ BtsT w' bv R.1.2.2.1 ∧ TxT w' pv R.1.2.2.2.1 ∧ Below w.heap.size w w'
theorem TxT.nil (w : World) (c : Nat) : TxT w (.slice none 0 c) [] := .inl ⟨_, _, rfl, rfl⟩

set_option maxHeartbeats 4000000 in
theorem pvtake (s : List UInt8) (n : Int) (hs : s.length ≤ 140737488351232) (hnb : n ≤ 4294967296 ∨ s.length ≤ 4294967296) (n1 : -9223372036854775808 ≤ n) (n2 : n ≤ 9223372036854775807) (w : World) :
    Calls Try.prog 45 #[tx s, .int .i64 n] w (TV (Vt.take s n) w) := by
  have V0 := Lib.hid (VBox.new w 0 0 (.slice none 0 0) (.slice none 0 0) 0 0)
  have G0 := Lib.hid (show Below w.heap.size w (w.alloc (.cells #[.int .i64 0, .int .i64 0, .slice none 0 0, .slice none 0 0, .int .i64 0, .int .i64 0] 27)) from (Below.refl _ _).alloc (Nat.le_refl _) _)
  go_enter Try.func45, Try.ntmps45
  go_wp2_with fail
  refine (pdecode s n hs hnb n1 n2 _).mono ?_
  rintro e w1 ⟨g1, hcase⟩
  have v1 := Lib.hid (V0.out.kept g1)
  have G1 := Lib.hid (G0.out.trans (g1.mono (by simp)))
  clear g1
  rcases hcase with ⟨x, rfl, hx, hno⟩ | ⟨v, bv, pv, rfl, hb, hp, l1, l2, l3, ho, hw⟩
  · have t1 : ((x : Int) != 0) = true := by rw [bne_iff_ne]; omega
    have E := Lib.hid (Vt.take_no hno)
    clear hx hno
    have v2 := Lib.hid (v1.out.alloc (.cells #[.int .i64 0, .int .i64 0, .slice none 0 0, .slice none 0 0, .int .i64 0, .int .i64 0] 27))
    have G2 := Lib.hid (G1.out.alloc G1.out.size (.cells #[.int .i64 0, .int .i64 0, .slice none 0 0, .slice none 0 0, .int .i64 0, .int .i64 0] 27))
    obtain ⟨c0, c1, c2, c3, c4, c5⟩ := v2.out.cells
    obtain ⟨f0, f1, f2, f3, f4, f5⟩ := v2.out.free
    go_wp2_with fail
    refine bodyPost_ret (v := .tuple #[vtxV 0 0 (.slice none 0 0) (.slice none 0 0) 0 0, .int .i64 3]) ?_ rfl ?_
    · obtain ⟨d0, d1, d2, d3, d4, d5⟩ := (v2.out.sets 0 0 (.slice none 0 0) (.slice none 0 0) 0 0).cells
      simp [results, Try.results45, go_sem, d0, d1, d2, d3, d4, d5]
    · rw [E.out]
      exact ⟨_, _, rfl, BtsT.nil _ _, TxT.nil _ _, below_vsets G2.out (Nat.le_refl _) _ _ _ _ _ _⟩
  · obtain ⟨a, r, bs, ps, x, y⟩ := v
    simp only [] at hb hp l1 l2 l3
    have HB := Lib.hid hb
    have HP := Lib.hid hp
    have HS := Lib.hid l2
    obtain ⟨ab, cb, rfl⟩ := hb.at.len
    obtain ⟨ap, cp, rfl⟩ := hp.at.len
    have g2 : Below w1.heap.size w1 (w1.alloc (.cells #[.int .i64 a, .int .i64 r, .slice ab bs.length cb, .slice ap ps.length cp, .int .i64 x, .int .i64 y] 27)) := (Below.refl _ _).alloc (Nat.le_refl _) _
    have v2 := Lib.hid (v1.out.kept g2)
    have x2 := Lib.hid (VBox.new w1 a r (.slice ab bs.length cb) (.slice ap ps.length cp) x y)
    have G2 := Lib.hid (grow_trans G1.out g2)
    have HB2 := Lib.hid (HB.out.keep (Keeps.of g2))
    have HP2 := Lib.hid (HP.out.keepT (Keeps.of g2))
    obtain ⟨z, hz⟩ : ∃ z, Vt.may (a, r, bs, ps, x, y) n = z := ⟨_, rfl⟩
    have hR : Vt.take s n = if z = true then ((a, r, bs, ps, x, y), 0) else Vt.none := by
      cases z with
      | true => rw [if_pos rfl]; exact Vt.take_yes hz (hw hz)
      | false =>
        rw [if_neg (by simp)]
        refine Vt.take_no fun u hu e => ?_
        have := ho u hu e
        rw [this, hz] at hu
        cases hu
    have HZ := Lib.hid hz
    have E := Lib.hid hR
    have hlb : bs.length ≤ 140737488351232 := by omega
    clear hz hR ho hw hb hp l1 l2 g2
    go_wp2_with fail
    refine (pvmay_eq (v := (a, r, bs, ps, x, y)) HZ.out _ _ _ HB2.out.at HP2.out.at hlb HS.out l3 n1 n2).mono ?_
    rintro e w3 ⟨rfl, g3⟩
    have v3 := Lib.hid (v2.out.kept g3)
    have x3 := Lib.hid (x2.out.kept g3)
    have G3 := Lib.hid (grow_trans G2.out g3)
    have HB3 := Lib.hid (HB2.out.keep (Keeps.of g3))
    have HP3 := Lib.hid (HP2.out.keepT (Keeps.of g3))
    obtain ⟨c0, c1, c2, c3, c4, c5⟩ := v3.out.cells
    obtain ⟨f0, f1, f2, f3, f4, f5⟩ := v3.out.free
    obtain ⟨k0, k1, k2, k3, k4, k5⟩ := x3.out.cells
    clear g3
    cases z with
    | true =>
      have E2 := Lib.hid (E.out.trans (if_pos rfl))
      go_wp2_with fail
      refine bodyPost_ret (v := .tuple #[vtxV a r (.slice ab bs.length cb) (.slice ap ps.length cp) x y, .int .i64 0]) ?_ rfl ?_
      · obtain ⟨d0, d1, d2, d3, d4, d5⟩ := (v3.out.sets a r (.slice ab bs.length cb) (.slice ap ps.length cp) x y).cells
        simp [results, Try.results45, go_sem, d0, d1, d2, d3, d4, d5]
      · rw [E2.out]
        have K := Keeps.vsets v3.out a r (.slice ab bs.length cb) (.slice ap ps.length cp) x y
        exact ⟨_, _, rfl, HB3.out.keep K, HP3.out.keepT K, below_vsets G3.out (Nat.le_refl _) _ _ _ _ _ _⟩
    | false =>
      have E2 := Lib.hid (E.out.trans (if_neg (by simp)))
      go_wp2_with fail
      refine bodyPost_ret (v := .tuple #[vtxV 0 0 (.slice none 0 0) (.slice none 0 0) 0 0, .int .i64 3]) ?_ rfl ?_
      · obtain ⟨d0, d1, d2, d3, d4, d5⟩ := (v3.out.sets 0 0 (.slice none 0 0) (.slice none 0 0) 0 0).cells
        simp [results, Try.results45, go_sem, d0, d1, d2, d3, d4, d5]
      · rw [E2.out]
        exact ⟨_, _, rfl, BtsT.nil _ _, TxT.nil _ _, below_vsets G3.out (Nat.le_refl _) _ _ _ _ _ _⟩
theorem pvtake_eq {s : List UInt8} {n : Int} {R : Vt.Vtx × Nat} (h : Vt.take s n = R) (hs : s.length ≤ 140737488351232) (hnb : n ≤ 4294967296 ∨ s.length ≤ 4294967296) (n1 : -9223372036854775808 ≤ n) (n2 : n ≤ 9223372036854775807) (w : World) :
    Calls Try.prog 45 #[tx s, .int .i64 n] w (TV R w) := by subst h; exact pvtake s n hs hnb n1 n2 w
end Go.Proofs.Ytbkpekpajeaacaa
