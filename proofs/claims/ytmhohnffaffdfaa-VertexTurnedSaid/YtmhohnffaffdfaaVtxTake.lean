/- Package vertex as it landed: Take. -/
import Derived.Test.YtmhohnffaffdfaaVtxDec
namespace Go.Proofs.Ytmhohnffaffdfaa
open Go.RowKit
set_option maxRecDepth 100000

/-- What a call that takes a vertex comes to. -/
def TV (R : Vt.Vtx × Nat) (w : World) (e : Ending) (w' : World) : Prop :=
  ∃ bv pv, e = .returned (.tuple #[vtxV R.1.1 R.1.2.1 bv pv R.1.2.2.2.2.1 R.1.2.2.2.2.2, .int .i64 R.2]) ∧ BtsT w' bv R.1.2.2.1 ∧ TxT w' pv R.1.2.2.2.1 ∧ Below w.heap.size w w'
theorem TxT.nil (w : World) (c : Nat) : TxT w (.slice none 0 c) [] := .inl ⟨_, _, rfl, rfl⟩

set_option maxHeartbeats 4000000 in
theorem pvtake (s : List UInt8) (n : Int) (hs : s.length ≤ 140737488351232) (hnb : n ≤ 4294967296 ∨ s.length ≤ 4294967296) (n1 : -9223372036854775808 ≤ n) (n2 : n ≤ 9223372036854775807) (w : World) :
    Calls Try.prog 8 #[tx s, .int .i64 n] w (TV (Vt.take s n) w) := by
  have V0 := Lib.hid (VBox.new w 0 0 (.slice none 0 0) (.slice none 0 0) 0 0)
  have G0 := Lib.hid (show Below w.heap.size w (w.alloc (.cells #[.int .i64 0, .int .i64 0, .slice none 0 0, .slice none 0 0, .int .i64 0, .int .i64 0] 28)) from (Below.refl _ _).alloc (Nat.le_refl _) _)
  go_enter Try.func8, Try.ntmps8
  go_wp2_with fail
  refine (pdecode s n hs hnb n1 n2 _).mono ?_
  rintro e w1 ⟨g1, hcase⟩
  have v1 := Lib.hid (V0.out.kept g1)
  have G1 := Lib.hid (G0.out.trans (g1.mono (by simp)))
  clear g1
  rcases hcase with ⟨x, rfl, hx, hno⟩ | ⟨v, bv, pv, rfl, hb, hp, l1, l2, l3, ho, hw⟩
  · have t1 : ((x : Int) != 0) = true := by rw [bne_iff_ne]; omega
    have E := Lib.hid (Vt.take_no hno)
    clear hx hno
    have v2 := Lib.hid (v1.out.alloc (.cells #[.int .i64 0, .int .i64 0, .slice none 0 0, .slice none 0 0, .int .i64 0, .int .i64 0] 28))
    have G2 := Lib.hid (G1.out.alloc G1.out.size (.cells #[.int .i64 0, .int .i64 0, .slice none 0 0, .slice none 0 0, .int .i64 0, .int .i64 0] 28))
    obtain ⟨c0, c1, c2, c3, c4, c5⟩ := v2.out.cells
    obtain ⟨f0, f1, f2, f3, f4, f5⟩ := v2.out.free
    go_wp2_with fail
    refine bodyPost_ret (v := .tuple #[vtxV 0 0 (.slice none 0 0) (.slice none 0 0) 0 0, .int .i64 3]) ?_ rfl ?_
    · obtain ⟨d0, d1, d2, d3, d4, d5⟩ := (v2.out.sets 0 0 (.slice none 0 0) (.slice none 0 0) 0 0).cells
      simp [results, Try.results8, go_sem, d0, d1, d2, d3, d4, d5]
    · rw [E.out]
      exact ⟨_, _, rfl, BtsT.nil _ _, TxT.nil _ _, below_vsets G2.out (Nat.le_refl _) _ _ _ _ _ _⟩
  · obtain ⟨a, r, bs, ps, x, y⟩ := v
    simp only [] at hb hp l1 l2 l3
    have HB := Lib.hid hb
    have HP := Lib.hid hp
    have HS := Lib.hid l2
    obtain ⟨ab, cb, rfl⟩ := hb.at.len
    obtain ⟨ap, cp, rfl⟩ := hp.at.len
    have g2 : Below w1.heap.size w1 (w1.alloc (.cells #[.int .i64 a, .int .i64 r, .slice ab bs.length cb, .slice ap ps.length cp, .int .i64 x, .int .i64 y] 28)) := (Below.refl _ _).alloc (Nat.le_refl _) _
    have v2 := Lib.hid (v1.out.kept g2)
    have x2 := Lib.hid (VBox.new w1 a r (.slice ab bs.length cb) (.slice ap ps.length cp) x y)
    have G2 := Lib.hid (grow_trans G1.out g2)
    have HB2 := Lib.hid (HB.out.keep (Keeps.of g2))
    have HP2 := Lib.hid (HP.out.keepT (Keeps.of g2))
    obtain ⟨z, hz⟩ : ∃ z, Vt.may (a, r, bs, ps, x, y) n = z := ⟨_, rfl⟩
    have hR : Vt.take s n = if z = true then ((a, r, bs, ps, x, y), 0) else Vt.none := by
      cases z with
      | true => rw [if_pos rfl]; exact Vt.take_yes hz (hw hz)
      | false =>
        rw [if_neg (by simp)]
        refine Vt.take_no fun u hu e => ?_
        have := ho u hu e
        rw [this, hz] at hu
        cases hu
    have HZ := Lib.hid hz
    have E := Lib.hid hR
    have hlb : bs.length ≤ 140737488351232 := by omega
    clear hz hR ho hw hb hp l1 l2 g2
    go_wp2_with fail
    refine (pvmay_eq (v := (a, r, bs, ps, x, y)) HZ.out _ _ _ HB2.out.at HP2.out.at hlb HS.out l3 n1 n2).mono ?_
    rintro e w3 ⟨rfl, g3⟩
    have v3 := Lib.hid (v2.out.kept g3)
    have x3 := Lib.hid (x2.out.kept g3)
    have G3 := Lib.hid (grow_trans G2.out g3)
    have HB3 := Lib.hid (HB2.out.keep (Keeps.of g3))
    have HP3 := Lib.hid (HP2.out.keepT (Keeps.of g3))
    obtain ⟨c0, c1, c2, c3, c4, c5⟩ := v3.out.cells
    obtain ⟨f0, f1, f2, f3, f4, f5⟩ := v3.out.free
    obtain ⟨k0, k1, k2, k3, k4, k5⟩ := x3.out.cells
    clear g3
    cases z with
    | true =>
      have E2 := Lib.hid (E.out.trans (if_pos rfl))
      go_wp2_with fail
      refine bodyPost_ret (v := .tuple #[vtxV a r (.slice ab bs.length cb) (.slice ap ps.length cp) x y, .int .i64 0]) ?_ rfl ?_
      · obtain ⟨d0, d1, d2, d3, d4, d5⟩ := (v3.out.sets a r (.slice ab bs.length cb) (.slice ap ps.length cp) x y).cells
        simp [results, Try.results8, go_sem, d0, d1, d2, d3, d4, d5]
      · rw [E2.out]
        have K := Keeps.vsets v3.out a r (.slice ab bs.length cb) (.slice ap ps.length cp) x y
        exact ⟨_, _, rfl, HB3.out.keep K, HP3.out.keepT K, below_vsets G3.out (Nat.le_refl _) _ _ _ _ _ _⟩
    | false =>
      have E2 := Lib.hid (E.out.trans (if_neg (by simp)))
      go_wp2_with fail
      refine bodyPost_ret (v := .tuple #[vtxV 0 0 (.slice none 0 0) (.slice none 0 0) 0 0, .int .i64 3]) ?_ rfl ?_
      · obtain ⟨d0, d1, d2, d3, d4, d5⟩ := (v3.out.sets 0 0 (.slice none 0 0) (.slice none 0 0) 0 0).cells
        simp [results, Try.results8, go_sem, d0, d1, d2, d3, d4, d5]
      · rw [E2.out]
        exact ⟨_, _, rfl, BtsT.nil _ _, TxT.nil _ _, below_vsets G3.out (Nat.le_refl _) _ _ _ _ _ _⟩
theorem pvtake_eq {s : List UInt8} {n : Int} {R : Vt.Vtx × Nat} (h : Vt.take s n = R) (hs : s.length ≤ 140737488351232) (hnb : n ≤ 4294967296 ∨ s.length ≤ 4294967296) (n1 : -9223372036854775808 ≤ n) (n2 : n ≤ 9223372036854775807) (w : World) :
    Calls Try.prog 8 #[tx s, .int .i64 n] w (TV R w) := by subst h; exact pvtake s n hs hnb n1 n2 w
end Go.Proofs.Ytmhohnffaffdfaa
