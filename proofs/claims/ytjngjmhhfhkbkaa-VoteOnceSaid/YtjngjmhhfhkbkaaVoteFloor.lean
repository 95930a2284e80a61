/- The document's Floor. -/
import Derived.Test.YtjngjmhhfhkbkaaVoteRef
namespace Vt
theorem floor_step (l : List Bl) (low : Int) (k : Nat) (h : k < l.length) : floor (l.take (k + 1)) low = floor (l.take k) low ++ (if low < l[k].2.1 then [l[k]] else []) := by
  rw [List.take_succ_eq_append_getElem h, floor, List.filter_append]
  congr 1
  by_cases hh : low < l[k].2.1
  · rw [if_pos hh]; simp [hh]
  · rw [if_neg hh]; simp [hh]
theorem floor_len (l : List Bl) (low : Int) (k : Nat) : (floor (l.take k) low).length ≤ k := Nat.le_trans (List.length_filter_le _ _) (by simp; omega)
end Vt
namespace Go.Proofs.Ytjngjmhhfhkbkaa
open Go.RowKit
theorem info_ballot : (Try.prog.info? 24).map (fun i => (i.zero, i.size, i.bytes)) = some (some (.agg #[.int .i64 0, .int .i64 0, .string ⟨#[]⟩]), 3, 32) := by kernel_rfl
theorem new_cells (W : World) (vs : List Value) (t : TypeId) : ∀ j u, vs[j]? = some u → (W.alloc (.cells vs.toArray t)).cell? ((⟨W.heap.size, 0, none⟩ : Addr).add j) = some u := by
  intro j u h
  have ha : (⟨W.heap.size, 0, none⟩ : Addr).add j = ⟨W.heap.size, j, none⟩ := by unfold Addr.add; split <;> simp_all
  rw [ha, World.cell?_alloc_at _ _ _ _ rfl]
  simpa using h
theorem ballots_snoc (l : List Vt.Bl) (b : Vt.Bl) : ballots (l ++ [b]) = ballots l ++ [iv b.1, iv b.2.1, tx b.2.2] := by simp [ballots]

set_option maxHeartbeats 2000000 in
theorem rvfloor (v : Value) (l : List Vt.Bl) (low : Int) (w : World) (hs : FlatAt w v 3 (ballots l)) (hl : l.length ≤ 4398046511000) :
    Calls Try.prog 14 #[v, .int .i64 low] w fun e w' => ∃ v', e = .returned v' ∧ FlatAt w' v' 3 (ballots (Vt.floor l low)) ∧ Below w.heap.size w w' := by
  obtain ⟨i0, hi, hz0, hz1, hz2⟩ := info_parts info_ballot
  rcases flat_ballots hs (Below.refl _ _) with ⟨rfl, ad, cap, rfl⟩ | ⟨h0, b, off, cap, rfl, hc⟩
  · have hfl := Lib.hid (FlatAt.own (World.ownsRow_nil w w.heap.size 24 3))
    go_enter Try.func14, Try.ntmps14
    go_wp2_with fail
    refine wp_loop_rounds 1 ?_
    rw [rounds_succ]
    go_wp2
    go_ret
    exact ⟨_, rfl, hfl.out, Below.refl _ _⟩
  · have HC := Lib.hid hc
    clear hc hs
    go_enter Try.func14, Try.ntmps14
    go_wp2_with fail
    go_loopw [5, 6] (fun ov i wr => ∃ k : Nat, i = .int .i64 k ∧ k ≤ l.length ∧ wr.ownsRow w.heap.size 24 3 ov (Vt.floor (l.take k) low).length (ballots (Vt.floor (l.take k) low)) ∧ Below w.heap.size w wr) (fun _ i _ => l.length - (intOf i).toNat)
    case atStart => exact ⟨0, rfl, by omega, World.ownsRow_nil _ _ _ _, Below.refl _ _⟩
    case round =>
      obtain ⟨k, rfl, hk, hown, hbel⟩ := hrel
      by_cases hlt : k < l.length
      · obtain ⟨c1', c2', c3'⟩ := HC.out k hlt
        have c1 := below_cell hbel c1'
        have c2 := below_cell hbel c2'
        have c3 := below_cell hbel c3'
        have hst := Vt.floor_step l low k hlt
        have hfl := Vt.floor_len l low k
        clear c1' c2' c3'
        obtain ⟨y, hy⟩ : ∃ y, l[k] = y := ⟨_, rfl⟩
        rw [hy] at c1 c2 c3 hst
        clear hy
        obtain ⟨x, r, t⟩ := y
        simp only [iv] at c1 c2 c3 hst
        have HO := Lib.hid hown
        have HB := Lib.hid hbel
        clear hown hbel
        by_cases hr : low < r
        · have t1 : decide (low < r) = true := decide_eq_true hr
          rw [if_pos hr] at hst
          have HST := Lib.hid hst
          have HNW := Lib.hid (new_cells wr [.int .i64 x, .int .i64 r, tx t] 24)
          have hsz := HB.out.size
          clear hst hr
          go_wp2_with (at_builtin; refine wpList_append_own _ rfl _ _ 22 rfl w.heap.size 24 i0 (.agg #[.int .i64 0, .int .i64 0, .string ⟨#[]⟩]) 3 32 Try.underlying22 hi hz0 hz1 hz2 rfl (by decide) _ _ _ rfl (HO.out.alloc _) ⟨wr.heap.size, 0, none⟩ 1 1 [.int .i64 x, .int .i64 r, tx t] rfl rfl ?c1 ?c2 ?c3 ?c4 ?c5 ?_)
          case c1 => exact HNW.out
          case c2 => intro u hu; simp at hu; rcases hu with rfl | rfl | rfl <;> rfl
          case c3 => unfold maxLen; omega
          case c4 => omega
          case c5 => simp; omega
          intro v4 w4 hown4 hg _
          have hb4 : Below w.heap.size w w4 := (HB.out.alloc hsz _).grown hg (by simp; omega) (fun k hk => (HO.out.lt k hk).1)
          have ho4 : w4.ownsRow w.heap.size 24 3 v4 (Vt.floor (l.take (k + 1)) low).length (ballots (Vt.floor (l.take (k + 1)) low)) := by
            rw [HST.out, ballots_snoc, List.length_append]
            exact hown4
          have HO4 := Lib.hid ho4
          have HB4 := Lib.hid hb4
          clear ho4 hb4 hown4 hg
          go_wp2
          go_roundw
          case rel => exact ⟨k + 1, by go_num, hlt, HO4.out, HB4.out⟩
          case measure => simp [intOf]; omega
        · have t1 : decide (low < r) = false := decide_eq_false hr
          rw [if_neg hr, List.append_nil] at hst
          have HST := Lib.hid hst
          clear hst hr
          go_wp2
          go_roundw
          case rel => exact ⟨k + 1, by go_num, hlt, by rw [HST.out]; exact HO.out, HB.out⟩
          case measure => simp [intOf]; omega
      · obtain rfl : k = l.length := by omega
        rw [List.take_length] at hown
        have hf := Lib.hid (FlatAt.own hown)
        have HB := Lib.hid hbel
        clear hown hbel
        go_wp2
        go_ret
        exact ⟨_, rfl, hf.out, HB.out⟩
end Go.Proofs.Ytjngjmhhfhkbkaa
