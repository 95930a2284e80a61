/- Package vertex as it landed: two numbers taken into an array. -/
import Derived.Test.YtmhohnffaffdfaaVtxBytes
import Derived.Test.YtmhohnffaffdfaaDigTakeNum
namespace Go.Proofs.Ytmhohnffaffdfaa
open Go.RowKit

theorem pvbytes_no (v : Vt.Vtx) (bv pv : Value) (n : Int) (w : World) (hb : BtsAt w bv v.2.2.1) (hp : TxAt w pv v.2.2.2.1) (lb : v.2.2.1.length ≤ 140737488351232) (hs : Vt.Small v.2.2.1) (lp : v.2.2.2.1.length ≤ 140737488351232) (n1 : -9223372036854775808 ≤ n) (n2 : n ≤ 9223372036854775807) (hm : Vt.may v n = false) :
    Calls Try.prog 11 #[vtxV v.1 v.2.1 bv pv v.2.2.2.2.1 v.2.2.2.2.2, .int .i64 n] w fun e w' => e = .returned (.tuple #[tx [], .int .i64 1]) ∧ Below w.heap.size w w' := by
  have HM := Lib.hid hm
  obtain ⟨a, r, bs, ps, x, y⟩ := v
  simp only [] at hb hp lb lp hs
  have HG := Lib.hid (show Below w.heap.size w (w.alloc (.cells #[.int .i64 a, .int .i64 r, bv, pv, .int .i64 x, .int .i64 y] 28)) from (Below.refl _ _).alloc (Nat.le_refl _) _)
  have HB := Lib.hid hb
  have HP := Lib.hid hp
  have HS := Lib.hid hs
  obtain ⟨ab, cb, rfl⟩ := hb.len
  obtain ⟨ap, cp, rfl⟩ := hp.len
  clear hm hb hp hs
  go_enter Try.func11, Try.ntmps11
  go_wp2_with fail
  refine (pvmay_eq (v := (a, r, bs, ps, x, y)) HM.out _ _ _ (HB.out.below HG.out) (HP.out.below HG.out) lb HS.out lp n1 n2).mono ?_
  rintro e w1 ⟨rfl, g1⟩
  have G1 := Lib.hid (HG.out.trans (g1.mono (by simp)))
  clear g1
  go_wp2
  go_ret2
  exact ⟨rfl, G1.out⟩
theorem pvbytes_eq {v : Vt.Vtx} {n : Int} {R : List UInt8 × Nat} (h : Vt.bytesR v n = R) (bv pv : Value) (w : World) (hb : BtsAt w bv v.2.2.1) (hp : TxAt w pv v.2.2.2.1) (lb : v.2.2.1.length ≤ 140737488351232) (hs : Vt.Small v.2.2.1) (lp : v.2.2.2.1.length ≤ 140737488351232) (n1 : -9223372036854775808 ≤ n) (n2 : n ≤ 9223372036854775807) :
    Calls Try.prog 11 #[vtxV v.1 v.2.1 bv pv v.2.2.2.2.1 v.2.2.2.2.2, .int .i64 n] w fun e w' => e = .returned (.tuple #[tx R.1, .int .i64 R.2]) ∧ Below w.heap.size w w' := by
  subst h
  cases hm : Vt.may v n with
  | true => rw [Vt.bytesR_ok hm]; exact pvbytes_ok v bv pv n w hb hp n1 n2 hm
  | false => rw [Vt.bytesR_no hm]; exact pvbytes_no v bv pv n w hb hp lb hs lp n1 n2 hm

/-- An array of four numbers, in a block. -/
def UBox (W : World) (A : Nat) (a b c d : Int) : Prop := W.heap[A]? = some (.cells #[.int .u64 a, .int .u64 b, .int .u64 c, .int .u64 d] 67 (0, 0))
/-- Only block A has changed. -/
structure Only (A : Nat) (W W' : World) : Prop where
  below : ∀ n, n ≤ A → Below n W W'
  other : ∀ k, k ≠ A → W'.heap[k]? = W.heap[k]?
section
variable {W W' W'' : World} {A : Nat} {a b c d : Int}
theorem UBox.lt (h : UBox W A a b c d) : A < W.heap.size := (Array.getElem?_eq_some_iff.1 h).1
theorem UBox.facts (h : UBox W A a b c d) : W.cell? ⟨A, 0, none⟩ = some (.int .u64 a) ∧ W.cell? ⟨A, 1, none⟩ = some (.int .u64 b) ∧ W.cell? ⟨A, 2, none⟩ = some (.int .u64 c) ∧ W.cell? ⟨A, 3, none⟩ = some (.int .u64 d) ∧ W.frozen? ⟨A, 0, none⟩ = false ∧ W.frozen? ⟨A, 1, none⟩ = false ∧ W.frozen? ⟨A, 2, none⟩ = false ∧ W.frozen? ⟨A, 3, none⟩ = false := by
  have e : W.heap[A]? = _ := h
  refine ⟨?_, ?_, ?_, ?_, ?_, ?_, ?_, ?_⟩ <;> simp [World.cell?, World.frozen?, e]
theorem UBox.new (W : World) (a b c d : Int) : UBox (W.alloc (.cells #[.int .u64 a, .int .u64 b, .int .u64 c, .int .u64 d] 67)) W.heap.size a b c d := World.alloc_heap_new W _
theorem UBox.kept (h : UBox W A a b c d) (hb : Below W.heap.size W W') : UBox W' A a b c d := (hb.block A h.lt).trans h
theorem UBox.set0 (h : UBox W A a b c d) (v : Int) : UBox (W.setCell ⟨A, 0, none⟩ (.int .u64 v)) A v b c d := heap_setQ (k := 0) h _
theorem UBox.set1 (h : UBox W A a b c d) (v : Int) : UBox (W.setCell ⟨A, 1, none⟩ (.int .u64 v)) A a v c d := heap_setQ (k := 1) h _
theorem UBox.set2 (h : UBox W A a b c d) (v : Int) : UBox (W.setCell ⟨A, 2, none⟩ (.int .u64 v)) A a b v d := heap_setQ (k := 2) h _
theorem UBox.set3 (h : UBox W A a b c d) (v : Int) : UBox (W.setCell ⟨A, 3, none⟩ (.int .u64 v)) A a b c v := heap_setQ (k := 3) h _
theorem Only.refl (A : Nat) (W : World) : Only A W W := ⟨fun _ _ => Below.refl _ _, fun _ _ => rfl⟩
theorem Only.drew (h : Only A W W') (k : Nat) : Only A W (W'.drewN k) := ⟨fun n hn => below_drewN (h.below n hn) k, fun k hk => h.other k hk⟩
theorem Only.set (h : Only A W W') (j : Nat) (v : Value) : Only A W (W'.setCell ⟨A, j, none⟩ v) :=
  ⟨fun n hn => (h.below n hn).setCell (p := ⟨A, j, none⟩) hn v, fun k hk => (Below.heap_setCell W' ⟨A, j, none⟩ v k hk).trans (h.other k hk)⟩
end

/-- What a call that takes two numbers comes to. -/
def TwoN (s : List UInt8) (A : Nat) (box : World → Nat → Nat → Prop) (w : World) (e : Ending) (w' : World) : Prop :=
  Only A w w' ∧ ((∃ x : Nat, e = .returned (.tuple #[tx [], .int .i64 x]) ∧ x ≠ 0 ∧ ((Dg.takeNum s).2.2 ≠ 0 ∨ (Dg.takeNum (Dg.takeNum s).2.1).2.2 ≠ 0)) ∨
    ∃ u v s1 s2, e = .returned (.tuple #[tx s2, .int .i64 0]) ∧ Dg.takeNum s = (u, s1, 0) ∧ Dg.takeNum s1 = (v, s2, 0) ∧ box w' u v)

set_option maxHeartbeats 2000000 in
theorem ptakeN0 (s : List UInt8) (hs : s.length ≤ 140737488351232) (A cap : Nat) (a b c d : Int) (w : World) (hu : UBox w A a b c d) :
    Calls Try.prog 31 #[tx s, .slice (some ⟨A, 0, none⟩) 2 cap] w (TwoN s A (fun w' u v => UBox w' A u v c d) w) := by
  obtain ⟨u, s1, x, h1⟩ : ∃ u s1 x, Dg.takeNum s = (u, s1, x) := ⟨_, _, _, rfl⟩
  obtain ⟨v, s2, y, h2⟩ : ∃ v s2 y, Dg.takeNum s1 = (v, s2, y) := ⟨_, _, _, rfl⟩
  have l1 : s1.length ≤ s.length := by have := Dg.takeNum_rest s; rw [h1] at this; exact this
  have H1 := Lib.hid h1
  have H2 := Lib.hid h2
  have HU := Lib.hid hu
  obtain ⟨k0, k1, k2, k3, f0, f1, f2, f3⟩ := hu.facts
  clear h1 h2 hu
  by_cases hx : x = 0
  · subst hx
    by_cases hy : y = 0
    · subst hy
      go_enter Try.func31, Try.ntmps31
      go_wp2_with fail
      refine wp_loop_rounds 3 ?_
      rw [rounds_succ]
      go_wp2_with fail
      refine (takeNum_eq H1.out (by omega) _).mono ?_
      rintro e w1 ⟨rfl, q1, rfl⟩
      go_wp2_with fail
      rw [rounds_succ]
      go_wp2_with fail
      refine (takeNum_eq H2.out (by omega) _).mono ?_
      rintro e w1 ⟨rfl, q2, rfl⟩
      go_wp2_with fail
      rw [rounds_succ]
      go_wp2
      go_ret2
      exact ⟨((((Only.refl A w).drew q1).set 0 _).drew q2).set 1 _, .inr ⟨u, v, s1, s2, rfl, H1.out, H2.out, (HU.out.set0 u).set1 v⟩⟩
    · have t1 : ((y : Int) != 0) = true := by rw [bne_iff_ne]; omega
      have HY := Lib.hid hy
      clear hy
      go_enter Try.func31, Try.ntmps31
      go_wp2_with fail
      refine wp_loop_rounds 3 ?_
      rw [rounds_succ]
      go_wp2_with fail
      refine (takeNum_eq H1.out (by omega) _).mono ?_
      rintro e w1 ⟨rfl, q1, rfl⟩
      go_wp2_with fail
      rw [rounds_succ]
      go_wp2_with fail
      refine (takeNum_eq H2.out (by omega) _).mono ?_
      rintro e w1 ⟨rfl, q2, rfl⟩
      go_wp2
      go_ret2
      exact ⟨(((Only.refl A w).drew q1).set 0 _).drew q2, .inl ⟨y, rfl, HY.out, .inr (by rw [H1.out]; simp only []; rw [H2.out]; exact HY.out)⟩⟩
  · have t1 : ((x : Int) != 0) = true := by rw [bne_iff_ne]; omega
    have HX := Lib.hid hx
    clear hx
    go_enter Try.func31, Try.ntmps31
    go_wp2_with fail
    refine wp_loop_rounds 3 ?_
    rw [rounds_succ]
    go_wp2_with fail
    refine (takeNum_eq H1.out (by omega) _).mono ?_
    rintro e w1 ⟨rfl, q1, rfl⟩
    go_wp2
    go_ret2
    exact ⟨(Only.refl A w).drew q1, .inl ⟨x, rfl, HX.out, .inl (by rw [H1.out]; exact HX.out)⟩⟩

set_option maxHeartbeats 2000000 in
theorem ptakeN2 (s : List UInt8) (hs : s.length ≤ 140737488351232) (A cap : Nat) (a b c d : Int) (w : World) (hu : UBox w A a b c d) :
    Calls Try.prog 31 #[tx s, .slice (some ⟨A, 2, none⟩) 2 cap] w (TwoN s A (fun w' u v => UBox w' A a b u v) w) := by
  obtain ⟨u, s1, x, h1⟩ : ∃ u s1 x, Dg.takeNum s = (u, s1, x) := ⟨_, _, _, rfl⟩
  obtain ⟨v, s2, y, h2⟩ : ∃ v s2 y, Dg.takeNum s1 = (v, s2, y) := ⟨_, _, _, rfl⟩
  have l1 : s1.length ≤ s.length := by have := Dg.takeNum_rest s; rw [h1] at this; exact this
  have H1 := Lib.hid h1
  have H2 := Lib.hid h2
  have HU := Lib.hid hu
  obtain ⟨k0, k1, k2, k3, f0, f1, f2, f3⟩ := hu.facts
  clear h1 h2 hu
  by_cases hx : x = 0
  · subst hx
    by_cases hy : y = 0
    · subst hy
      go_enter Try.func31, Try.ntmps31
      go_wp2_with fail
      refine wp_loop_rounds 3 ?_
      rw [rounds_succ]
      go_wp2_with fail
      refine (takeNum_eq H1.out (by omega) _).mono ?_
      rintro e w1 ⟨rfl, q1, rfl⟩
      go_wp2_with fail
      rw [rounds_succ]
      go_wp2_with fail
      refine (takeNum_eq H2.out (by omega) _).mono ?_
      rintro e w1 ⟨rfl, q2, rfl⟩
      go_wp2_with fail
      rw [rounds_succ]
      go_wp2
      go_ret2
      exact ⟨((((Only.refl A w).drew q1).set 2 _).drew q2).set 3 _, .inr ⟨u, v, s1, s2, rfl, H1.out, H2.out, (HU.out.set2 u).set3 v⟩⟩
    · have t1 : ((y : Int) != 0) = true := by rw [bne_iff_ne]; omega
      have HY := Lib.hid hy
      clear hy
      go_enter Try.func31, Try.ntmps31
      go_wp2_with fail
      refine wp_loop_rounds 3 ?_
      rw [rounds_succ]
      go_wp2_with fail
      refine (takeNum_eq H1.out (by omega) _).mono ?_
      rintro e w1 ⟨rfl, q1, rfl⟩
      go_wp2_with fail
      rw [rounds_succ]
      go_wp2_with fail
      refine (takeNum_eq H2.out (by omega) _).mono ?_
      rintro e w1 ⟨rfl, q2, rfl⟩
      go_wp2
      go_ret2
      exact ⟨(((Only.refl A w).drew q1).set 2 _).drew q2, .inl ⟨y, rfl, HY.out, .inr (by rw [H1.out]; simp only []; rw [H2.out]; exact HY.out)⟩⟩
  · have t1 : ((x : Int) != 0) = true := by rw [bne_iff_ne]; omega
    have HX := Lib.hid hx
    clear hx
    go_enter Try.func31, Try.ntmps31
    go_wp2_with fail
    refine wp_loop_rounds 3 ?_
    rw [rounds_succ]
    go_wp2_with fail
    refine (takeNum_eq H1.out (by omega) _).mono ?_
    rintro e w1 ⟨rfl, q1, rfl⟩
    go_wp2
    go_ret2
    exact ⟨(Only.refl A w).drew q1, .inl ⟨x, rfl, HX.out, .inl (by rw [H1.out]; exact HX.out)⟩⟩
end Go.Proofs.Ytmhohnffaffdfaa
