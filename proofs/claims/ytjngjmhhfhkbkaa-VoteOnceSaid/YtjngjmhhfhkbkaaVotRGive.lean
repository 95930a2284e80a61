/- The document's Give. (Written by gen-rvgive.py.) -/
import Derived.Test.YtjngjmhhfhkbkaaVotPlace
import Derived.Test.YtjngjmhhfhkbkaaVoteFind
import Derived.Test.YtjngjmhhfhkbkaaVoteAhead
import Derived.Test.YtjngjmhhfhkbkaaVoteFloor
import Derived.Test.YtjngjmhhfhkbkaaVotGive
namespace Vt
/-- What stands in the new row behind k rounds. -/
def upto (l : List Bl) (y : Bl) (p k : Nat) : List Bl := if k ≤ p then l.take k else l.take p ++ y :: (l.take k).drop p
theorem upto_low (l : List Bl) (y : Bl) (p k : Nat) (h : k < l.length) (hk : k < p) : upto l y p (k + 1) = upto l y p k ++ [l[k]] := by
  rw [upto, upto, if_pos (by omega), if_pos (by omega), List.take_succ_eq_append_getElem h]
theorem upto_at (l : List Bl) (y : Bl) (k : Nat) (h : k < l.length) : upto l y k (k + 1) = upto l y k k ++ [y] ++ [l[k]] := by
  rw [upto, upto, if_neg (by omega), if_pos (by omega), List.append_assoc]
  congr 1
  rw [List.take_succ_eq_append_getElem h, List.drop_append_of_le_length (by simp; omega)]
  simp
theorem upto_high (l : List Bl) (y : Bl) (p k : Nat) (h : k < l.length) (hk : p < k) : upto l y p (k + 1) = upto l y p k ++ [l[k]] := by
  rw [upto, upto, if_neg (by omega), if_neg (by omega), List.append_assoc, List.take_succ_eq_append_getElem h, List.drop_append_of_le_length (by simp; omega)]
  simp
theorem upto_end (l : List Bl) (y : Bl) (h : place y l < l.length) : upto l y (place y l) l.length = ins y l := by
  rw [upto, if_neg (by omega), List.take_length, ins_place]
theorem upto_whole (l : List Bl) (y : Bl) (h : place y l = l.length) : upto l y (place y l) l.length ++ [y] = ins y l := by
  rw [upto, if_pos (by omega), List.take_length, ins_place, h, List.take_length, List.drop_length]
theorem upto_len (l : List Bl) (y : Bl) (p k : Nat) (hk : k ≤ l.length) : (upto l y p k).length ≤ k + 1 := by
  rw [upto]
  split
  · rw [List.length_take]; omega
  · simp; omega
end Vt
namespace Go.Proofs.Ytjngjmhhfhkbkaa
open Go.RowKit
theorem own_below {w w' : World} {base k : Nat} {t : TypeId} {v : Value} {n : Nat} {cs : List Value} (h : w.ownsRow base t k v n cs) (hb : Below w.heap.size w w') : w'.ownsRow base t k v n cs := by
  obtain ⟨h1, h2⟩ := h
  refine ⟨h1, ?_⟩
  rcases h2 with h2 | ⟨g, cap, cur, hv, hg, hh, r⟩
  · exact .inl h2
  · exact .inr ⟨g, cap, cur, hv, hg, by rw [hb.block g (Array.getElem?_eq_some_iff.1 hh).1]; exact hh, r⟩

set_option maxHeartbeats 4000000 in
theorem rvgive_arg (v : Value) (l : List Vt.Bl) (low : Int) (s : Vt.Bl) (w : World) (hv : BalAt w v l) (h : Vt.may s = false) :
    Calls Try.prog 11 #[v, .int .i64 low, bval s] w fun e w' => ∃ u, e = .returned (.tuple #[u, .int .i64 (Vt.give l low s).2]) ∧ BalAt w' u (Vt.give l low s).1 ∧ Below w.heap.size w w' := by
  have HG := Lib.hid (show Vt.give l low s = (l, 1) by rw [Vt.give, if_pos h])
  have hm := fun W => rvmay s.1 s.2.1 (tx s.2.2) W
  have hmy : (decide (1 ≤ s.1) && decide (s.1 ≤ 64) && decide (1 ≤ s.2.1)) = Vt.may s := rfl
  simp only [hmy] at hm
  clear hmy
  obtain ⟨x, r, t⟩ := s
  obtain ⟨C, hC⟩ : ∃ C, w.heap.size = C := ⟨_, rfl⟩
  obtain ⟨w0, hw0⟩ : ∃ w0, w.alloc (.cells #[iv x, iv r, tx t] 24) = w0 := ⟨_, rfl⟩
  have g0 : Below w.heap.size w w0 := by rw [← hw0]; exact (Below.refl _ _).alloc (Nat.le_refl _) _
  have GR := Lib.hid g0
  have HV := Lib.hid (hv.below g0)
  have B0 := Lib.hid (show w0.cell? ⟨C, 0, none⟩ = some (.int .i64 x) by rw [← hw0, ← hC]; simp [iv])
  have B1 := Lib.hid (show w0.cell? ⟨C, 1, none⟩ = some (.int .i64 r) by rw [← hw0, ← hC]; simp [iv])
  have B2 := Lib.hid (show w0.cell? ⟨C, 2, none⟩ = some (tx t) by rw [← hw0, ← hC]; simp)
  clear g0
  rw [h] at hm
  clear h hv
  have z0 := B0.out
  have z1 := B1.out
  have z2 := B2.out
  go_enter Try.func11, Try.ntmps11
  go_wp2_with fail
  refine (hm _).mono ?_
  rintro e w1 ⟨rfl, h1⟩
  have r0 := below_cell h1 B0.out
  have r1 := below_cell h1 B1.out
  have r2 := below_cell h1 B2.out
  clear z0 z1 z2
  go_wp2_with fail
  go_ret2
  refine ⟨_, by rw [HG.out]; rfl, by rw [HG.out]; exact HV.out.below h1, GR.out.trans ((h1).mono GR.out.size)⟩

set_option maxHeartbeats 4000000 in
theorem rvgive_old (v : Value) (l : List Vt.Bl) (low : Int) (s : Vt.Bl) (w : World) (hv : BalAt w v l) (h : Vt.may s = true) (h2 : s.2.1 ≤ low) :
    Calls Try.prog 11 #[v, .int .i64 low, bval s] w fun e w' => ∃ u, e = .returned (.tuple #[u, .int .i64 (Vt.give l low s).2]) ∧ BalAt w' u (Vt.give l low s).1 ∧ Below w.heap.size w w' := by
  have HG := Lib.hid (show Vt.give l low s = (l, 9) by rw [Vt.give, if_neg (by rw [h]; decide), if_pos h2])
  have t2 : decide (s.2.1 ≤ low) = true := decide_eq_true h2
  have hm := fun W => rvmay s.1 s.2.1 (tx s.2.2) W
  have hmy : (decide (1 ≤ s.1) && decide (s.1 ≤ 64) && decide (1 ≤ s.2.1)) = Vt.may s := rfl
  simp only [hmy] at hm
  clear hmy
  obtain ⟨x, r, t⟩ := s
  obtain ⟨C, hC⟩ : ∃ C, w.heap.size = C := ⟨_, rfl⟩
  obtain ⟨w0, hw0⟩ : ∃ w0, w.alloc (.cells #[iv x, iv r, tx t] 24) = w0 := ⟨_, rfl⟩
  have g0 : Below w.heap.size w w0 := by rw [← hw0]; exact (Below.refl _ _).alloc (Nat.le_refl _) _
  have GR := Lib.hid g0
  have HV := Lib.hid (hv.below g0)
  have B0 := Lib.hid (show w0.cell? ⟨C, 0, none⟩ = some (.int .i64 x) by rw [← hw0, ← hC]; simp [iv])
  have B1 := Lib.hid (show w0.cell? ⟨C, 1, none⟩ = some (.int .i64 r) by rw [← hw0, ← hC]; simp [iv])
  have B2 := Lib.hid (show w0.cell? ⟨C, 2, none⟩ = some (tx t) by rw [← hw0, ← hC]; simp)
  clear g0
  rw [h] at hm
  clear h hv h2
  have z0 := B0.out
  have z1 := B1.out
  have z2 := B2.out
  go_enter Try.func11, Try.ntmps11
  go_wp2_with fail
  refine (hm _).mono ?_
  rintro e w1 ⟨rfl, h1⟩
  have r0 := below_cell h1 B0.out
  have r1 := below_cell h1 B1.out
  have r2 := below_cell h1 B2.out
  clear z0 z1 z2
  go_wp2_with fail
  go_ret2
  refine ⟨_, by rw [HG.out]; rfl, by rw [HG.out]; exact HV.out.below h1, GR.out.trans ((h1).mono GR.out.size)⟩

set_option maxHeartbeats 4000000 in
theorem rvgive_same (v : Value) (l : List Vt.Bl) (low : Int) (s : Vt.Bl) (w : World) (hv : BalAt w v l) (hl : l.length ≤ 4398046511102) (h : Vt.may s = true) (h2 : ¬ s.2.1 ≤ low) (h3 : Vt.find l s.1 s.2.1 = some s.2.2) :
    Calls Try.prog 11 #[v, .int .i64 low, bval s] w fun e w' => ∃ u, e = .returned (.tuple #[u, .int .i64 (Vt.give l low s).2]) ∧ BalAt w' u (Vt.give l low s).1 ∧ Below w.heap.size w w' := by
  have t2 : decide (s.2.1 ≤ low) = false := decide_eq_false h2
  have HG := Lib.hid (show Vt.give l low s = (l, 0) by rw [Vt.give, if_neg (by rw [h]; decide), if_neg h2, h3]; simp)
  have hfd : Vt.found l s.1 s.2.1 = (s.2.2, true) := by rw [Vt.found, h3]; rfl
  have hf := fun W hs => rvfind v l s.1 s.2.1 W hs (by omega)
  have hm := fun W => rvmay s.1 s.2.1 (tx s.2.2) W
  have hmy : (decide (1 ≤ s.1) && decide (s.1 ≤ 64) && decide (1 ≤ s.2.1)) = Vt.may s := rfl
  simp only [hmy] at hm
  clear hmy
  obtain ⟨x, r, t⟩ := s
  obtain ⟨C, hC⟩ : ∃ C, w.heap.size = C := ⟨_, rfl⟩
  obtain ⟨w0, hw0⟩ : ∃ w0, w.alloc (.cells #[iv x, iv r, tx t] 24) = w0 := ⟨_, rfl⟩
  have g0 : Below w.heap.size w w0 := by rw [← hw0]; exact (Below.refl _ _).alloc (Nat.le_refl _) _
  have GR := Lib.hid g0
  have HV := Lib.hid (hv.below g0)
  have B0 := Lib.hid (show w0.cell? ⟨C, 0, none⟩ = some (.int .i64 x) by rw [← hw0, ← hC]; simp [iv])
  have B1 := Lib.hid (show w0.cell? ⟨C, 1, none⟩ = some (.int .i64 r) by rw [← hw0, ← hC]; simp [iv])
  have B2 := Lib.hid (show w0.cell? ⟨C, 2, none⟩ = some (tx t) by rw [← hw0, ← hC]; simp)
  clear g0
  rw [h] at hm
  simp only [hfd] at hf
  clear h hv h2 h3 hfd
  have z0 := B0.out
  have z1 := B1.out
  have z2 := B2.out
  go_enter Try.func11, Try.ntmps11
  go_wp2_with fail
  refine (hm _).mono ?_
  rintro e w1 ⟨rfl, h1⟩
  have r0 := below_cell h1 B0.out
  have r1 := below_cell h1 B1.out
  have r2 := below_cell h1 B2.out
  clear z0 z1 z2
  go_wp2_with fail
  refine (hf _ (HV.out.below h1).flat).mono ?_
  rintro e w2 ⟨rfl, q, rfl⟩
  clear hf
  go_wp2_with fail
  go_ret2
  refine ⟨_, by rw [HG.out]; rfl, by rw [HG.out]; exact HV.out.below (h1.trans ((grow_draws _ _).mono h1.size)), GR.out.trans ((h1.trans ((grow_draws _ _).mono h1.size)).mono GR.out.size)⟩

set_option maxHeartbeats 4000000 in
theorem rvgive_other (v : Value) (l : List Vt.Bl) (low : Int) (s : Vt.Bl) (w : World) (hv : BalAt w v l) (hl : l.length ≤ 4398046511102) (d : List UInt8) (h : Vt.may s = true) (h2 : ¬ s.2.1 ≤ low) (h3 : Vt.find l s.1 s.2.1 = some d) (h4 : ¬ d = s.2.2) :
    Calls Try.prog 11 #[v, .int .i64 low, bval s] w fun e w' => ∃ u, e = .returned (.tuple #[u, .int .i64 (Vt.give l low s).2]) ∧ BalAt w' u (Vt.give l low s).1 ∧ Below w.heap.size w w' := by
  have t2 : decide (s.2.1 ≤ low) = false := decide_eq_false h2
  have HG := Lib.hid (show Vt.give l low s = (l, 13) by rw [Vt.give, if_neg (by rw [h]; decide), if_neg h2, h3]; simp [h4])
  have hfd : Vt.found l s.1 s.2.1 = (d, true) := by rw [Vt.found, h3]; rfl
  have hf := fun W hs => rvfind v l s.1 s.2.1 W hs (by omega)
  have hm := fun W => rvmay s.1 s.2.1 (tx s.2.2) W
  have hmy : (decide (1 ≤ s.1) && decide (s.1 ≤ 64) && decide (1 ≤ s.2.1)) = Vt.may s := rfl
  simp only [hmy] at hm
  clear hmy
  obtain ⟨x, r, t⟩ := s
  obtain ⟨C, hC⟩ : ∃ C, w.heap.size = C := ⟨_, rfl⟩
  obtain ⟨w0, hw0⟩ : ∃ w0, w.alloc (.cells #[iv x, iv r, tx t] 24) = w0 := ⟨_, rfl⟩
  have g0 : Below w.heap.size w w0 := by rw [← hw0]; exact (Below.refl _ _).alloc (Nat.le_refl _) _
  have GR := Lib.hid g0
  have HV := Lib.hid (hv.below g0)
  have B0 := Lib.hid (show w0.cell? ⟨C, 0, none⟩ = some (.int .i64 x) by rw [← hw0, ← hC]; simp [iv])
  have B1 := Lib.hid (show w0.cell? ⟨C, 1, none⟩ = some (.int .i64 r) by rw [← hw0, ← hC]; simp [iv])
  have B2 := Lib.hid (show w0.cell? ⟨C, 2, none⟩ = some (tx t) by rw [← hw0, ← hC]; simp)
  clear g0
  rw [h] at hm
  simp only [hfd] at hf
  have t4 : (d == t) = false := by simpa using h4
  clear h hv h2 h3 hfd h4
  have z0 := B0.out
  have z1 := B1.out
  have z2 := B2.out
  go_enter Try.func11, Try.ntmps11
  go_wp2_with fail
  refine (hm _).mono ?_
  rintro e w1 ⟨rfl, h1⟩
  have r0 := below_cell h1 B0.out
  have r1 := below_cell h1 B1.out
  have r2 := below_cell h1 B2.out
  clear z0 z1 z2
  go_wp2_with fail
  refine (hf _ (HV.out.below h1).flat).mono ?_
  rintro e w2 ⟨rfl, q, rfl⟩
  clear hf
  go_wp2_with fail
  go_ret2
  refine ⟨_, by rw [HG.out]; rfl, by rw [HG.out]; exact HV.out.below (h1.trans ((grow_draws _ _).mono h1.size)), GR.out.trans ((h1.trans ((grow_draws _ _).mono h1.size)).mono GR.out.size)⟩

set_option maxHeartbeats 8000000 in
set_option maxRecDepth 100000 in
theorem rvgive_new (v : Value) (l : List Vt.Bl) (low : Int) (s : Vt.Bl) (w : World) (hv : BalAt w v l) (hl : l.length ≤ 4398046511102) (h : Vt.may s = true) (h2 : ¬ s.2.1 ≤ low) (h3 : Vt.find l s.1 s.2.1 = none) :
    Calls Try.prog 11 #[v, .int .i64 low, bval s] w fun e w' => ∃ u, e = .returned (.tuple #[u, .int .i64 0]) ∧ FlatAt w' u 3 (ballots (Vt.ins s l)) ∧ Below w.heap.size w w' := by
  obtain ⟨i0, hi, hz0, hz1, hz2⟩ := info_parts info_ballot
  have hvl : ∃ a cap, v = .slice a l.length cap := hv.flat.len (n := l.length) (ballots_len l) (by omega)
  have t2 : decide (s.2.1 ≤ low) = false := decide_eq_false h2
  have hfd : Vt.found l s.1 s.2.1 = ([], false) := by rw [Vt.found, h3]; rfl
  have hf := fun W hs => rvfind v l s.1 s.2.1 W hs (by omega)
  have hm := fun W => rvmay s.1 s.2.1 (tx s.2.2) W
  have hmy : (decide (1 ≤ s.1) && decide (s.1 ≤ 64) && decide (1 ≤ s.2.1)) = Vt.may s := rfl
  simp only [hmy] at hm
  clear hmy
  obtain ⟨x, r, t⟩ := s
  obtain ⟨C, hC⟩ : ∃ C, w.heap.size = C := ⟨_, rfl⟩
  obtain ⟨w0, hw0⟩ : ∃ w0, w.alloc (.cells #[iv x, iv r, tx t] 24) = w0 := ⟨_, rfl⟩
  have g0 : Below w.heap.size w w0 := by rw [← hw0]; exact (Below.refl _ _).alloc (Nat.le_refl _) _
  have GR := Lib.hid g0
  have HV := Lib.hid (hv.below g0)
  have B0 := Lib.hid (show w0.cell? ⟨C, 0, none⟩ = some (.int .i64 x) by rw [← hw0, ← hC]; simp [iv])
  have B1 := Lib.hid (show w0.cell? ⟨C, 1, none⟩ = some (.int .i64 r) by rw [← hw0, ← hC]; simp [iv])
  have B2 := Lib.hid (show w0.cell? ⟨C, 2, none⟩ = some (tx t) by rw [← hw0, ← hC]; simp)
  clear g0
  rw [h] at hm
  simp only [hfd] at hf
  have hple := Vt.place_le (x, r, t) l
  have HPB := Lib.hid (Vt.place_before (x, r, t) l)
  have HPA := Lib.hid (show ∀ k (hk : k < l.length), Vt.place (x, r, t) l = k → Vt.ahead (x, r, t) l[k] = true from fun k hk e => by subst e; exact Vt.place_at _ _ hk)
  have HE := Lib.hid (Vt.upto_end l (x, r, t))
  have HW := Lib.hid (Vt.upto_whole l (x, r, t))
  obtain ⟨p, hp⟩ : ∃ p, Vt.place (x, r, t) l = p := ⟨_, rfl⟩
  simp only [hp] at hple HPB HPA HE HW
  clear h hv h2 h3 hfd hp
  have hfl := HV.out.flat
  rcases flat_ballots hfl (Below.refl _ _) with ⟨rfl, a, cap, rfl⟩ | ⟨h0, b, off, cap, rfl, hc⟩
  · have HIN := Lib.hid (show Vt.ins (x, r, t) [] = [(x, r, t)] from rfl)
    have hfn : ∀ W, Calls Try.prog 16 #[.slice a 0 cap, .int .i64 x, .int .i64 r] W fun e w' => e = .returned (.tuple #[tx [], .bool false]) ∧ ∃ q, w' = W.drewN q := fun W => hf W (.inl ⟨a, cap, rfl, rfl⟩)
    clear hf HE HW HPA HPB hple hvl hfl hl
    have z0 := B0.out
    have z1 := B1.out
    have z2 := B2.out
    go_enter Try.func11, Try.ntmps11
    go_wp2_with fail
    refine (hm _).mono ?_
    rintro e w1 ⟨rfl, h1⟩
    have r0 := below_cell h1 B0.out
    have r1 := below_cell h1 B1.out
    have r2 := below_cell h1 B2.out
    clear z0 z1 z2
    go_wp2_with fail
    refine (hfn _).mono ?_
    rintro e w2 ⟨rfl, q, rfl⟩
    have hb2 := h1.trans ((grow_draws w1 q).mono h1.size)
    have s0 := below_cell hb2 B0.out
    have s1 := below_cell hb2 B1.out
    have s2 := below_cell hb2 B2.out
    clear r0 r1 r2 hfn
    obtain ⟨w3, hw3⟩ : ∃ w3, w1.drewN q = w3 := ⟨_, rfl⟩
    have HB := Lib.hid hb2
    simp only [hw3] at s0 s1 s2 HB
    have hsz3 := HB.out.size
    go_wp2_with fail
    clear hw3 hb2
    refine wp_loop_rounds 1 ?_
    rw [rounds_succ]
    have HO := Lib.hid (World.ownsRow_nil w3 w0.heap.size 24 3)
    have HNW4 := Lib.hid (new_cells w3 [.int .i64 x, .int .i64 r, tx t] 24)
    go_wp2_with (at_builtin; refine wpList_append_own _ rfl _ _ 22 rfl w0.heap.size 24 i0 (.agg #[.int .i64 0, .int .i64 0, .string ⟨#[]⟩]) 3 32 Try.underlying22 hi hz0 hz1 hz2 rfl (by decide) _ _ _ rfl (HO.out.alloc _) ⟨w3.heap.size, 0, none⟩ 1 1 [.int .i64 x, .int .i64 r, tx t] rfl rfl ?c1 ?c2 ?c3 ?c4 ?c5 ?_)
    case c1 => exact HNW4.out
    case c2 => intro u hu; simp at hu; rcases hu with rfl | rfl | rfl <;> rfl
    case c3 => unfold maxLen; omega
    case c4 => omega
    case c5 => simp; omega
    intro v4 w4 hown4 hg _
    have hb4 : Below w0.heap.size w0 w4 := (HB.out.alloc hsz3 _).grown hg (by simp; omega) (fun k hk => (HO.out.lt k hk).1)
    have HB4 := Lib.hid hb4
    have hsz4 := hb4.size
    clear hg hb4 HNW4
    go_wp2
    go_ret2
    exact ⟨_, rfl, by rw [HIN.out]; exact FlatAt.own hown4, GR.out.trans (HB4.out.mono GR.out.size)⟩
  · have HC := Lib.hid hc
    have hfn : ∀ W, Below w0.heap.size w0 W → Calls Try.prog 16 #[.slice (some ⟨b, off, none⟩) l.length cap, .int .i64 x, .int .i64 r] W fun e w' => e = .returned (.tuple #[tx [], .bool false]) ∧ ∃ q, w' = W.drewN q := fun W hW => hf W (hfl.below hW)
    have HFN := Lib.hid hfn
    clear hf hvl hfl hc hfn HV
    have z0 := B0.out
    have z1 := B1.out
    have z2 := B2.out
    go_enter Try.func11, Try.ntmps11
    go_wp2_with fail
    refine (hm _).mono ?_
    rintro e w1 ⟨rfl, h1⟩
    have r0 := below_cell h1 B0.out
    have r1 := below_cell h1 B1.out
    have r2 := below_cell h1 B2.out
    clear z0 z1 z2
    go_wp2_with fail
    refine (HFN.out _ h1).mono ?_
    rintro e w2 ⟨rfl, q, rfl⟩
    have HB1 := Lib.hid (h1.trans ((grow_draws w1 q).mono h1.size))
    clear r0 r1 r2 h1 HFN
    obtain ⟨w3, hw3⟩ : ∃ w3, w1.drewN q = w3 := ⟨_, rfl⟩
    go_wp2_with fail
    rw [hw3] at HB1
    clear hw3
    go_loopw [11, 12, 13] (fun ov dv i wr => ∃ k : Nat, i = .int .i64 k ∧ k ≤ l.length ∧ dv = .bool (decide (p < k)) ∧ wr.ownsRow w0.heap.size 24 3 ov (Vt.upto l (x, r, t) p k).length (ballots (Vt.upto l (x, r, t) p k)) ∧ Below w0.heap.size w0 wr) (fun _ _ i _ => l.length - (intOf i).toNat)
    case atStart => exact ⟨0, rfl, by omega, by simp, World.ownsRow_nil _ _ _ _, HB1.out⟩
    case round =>
      clear HB1
      obtain ⟨k, rfl, hk, rfl, hown, hbel⟩ := hrel
      have HO := Lib.hid hown
      have HB := Lib.hid hbel
      have hszr := hbel.size
      clear hown hbel
      have hul := Vt.upto_len l (x, r, t) p k hk
      by_cases hlt : k < l.length
      · obtain ⟨c1', c2', c3'⟩ := HC.out k hlt
        have c1 := below_cell HB.out c1'
        have c2 := below_cell HB.out c2'
        have c3 := below_cell HB.out c3'
        have b1 := below_cell HB.out B0.out
        have b2 := below_cell HB.out B1.out
        have b3 := below_cell HB.out B2.out
        have hlow := Vt.upto_low l (x, r, t) p k hlt
        have hat := Vt.upto_at l (x, r, t) k hlt
        have hhigh := Vt.upto_high l (x, r, t) p k hlt
        have hpb := HPB.out k hlt
        have HAQ := Lib.hid (HPA.out k hlt)
        obtain ⟨y, hy⟩ : ∃ y, l[k] = y := ⟨_, rfl⟩
        simp only [hy] at c1' c2' c3' c1 c2 c3 hlow hat hhigh hpb HAQ
        clear hy
        have hah := fun W => rvahead (x, r, t) y W
        obtain ⟨x', r', t'⟩ := y
        simp only [iv] at c1' c2' c3' c1 c2 c3 hah
        have D1 := Lib.hid c1'
        have D2 := Lib.hid c2'
        have D3 := Lib.hid c3'
        clear c1' c2' c3'
        by_cases hpk : p < k
        · have HST := Lib.hid (hhigh hpk)
          have hd : decide (p < k) = true := decide_eq_true hpk
          clear hlow hat hhigh hpb HAQ hah b1 b2 b3
          simp only [hd]
          go_wp2_with fail
          go_quiet (fail)
          generalize hw9 : World.drewN wr _ = w9
          have hb9 : Below wr.heap.size wr w9 := by rw [← hw9]; exact grow_draws _ _
          have HO9 := Lib.hid (own_below HO.out hb9)
          have HB9 := Lib.hid (grow_trans HB.out hb9)
          have hsz9 := HB9.out.size
          have k1 := below_cell hb9 c1
          have k2 := below_cell hb9 c2
          have k3 := below_cell hb9 c3
          clear hw9 hb9 c1 c2 c3 HO HB hszr
          have HNW4 := Lib.hid (new_cells w9 [.int .i64 x', .int .i64 r', tx t'] 24)
          go_wp2_with (at_builtin; refine wpList_append_own _ rfl _ _ 22 rfl w0.heap.size 24 i0 (.agg #[.int .i64 0, .int .i64 0, .string ⟨#[]⟩]) 3 32 Try.underlying22 hi hz0 hz1 hz2 rfl (by decide) _ _ _ rfl (HO9.out.alloc _) ⟨w9.heap.size, 0, none⟩ 1 1 [.int .i64 x', .int .i64 r', tx t'] rfl rfl ?c1 ?c2 ?c3 ?c4 ?c5 ?_)
          case c1 => exact HNW4.out
          case c2 => intro u hu; simp at hu; rcases hu with rfl | rfl | rfl <;> rfl
          case c3 => unfold maxLen; omega
          case c4 => omega
          case c5 => simp; omega
          intro v4 w4 hown4 hg _
          have hb4 : Below w0.heap.size w0 w4 := (HB9.out.alloc hsz9 _).grown hg (by simp; omega) (fun k hk => (HO9.out.lt k hk).1)
          have HB4 := Lib.hid hb4
          have hsz4 := hb4.size
          clear hg hb4 HNW4
          have HO5 := Lib.hid (show w4.ownsRow w0.heap.size 24 3 v4 (Vt.upto l (x, r, t) p (k + 1)).length (ballots (Vt.upto l (x, r, t) p (k + 1))) by
            rw [HST.out, ballots_snoc, List.length_append]
            exact hown4)
          clear hown4
          go_wp2
          go_roundw
          case rel => exact ⟨k + 1, by go_num, hlt, by simp; omega, HO5.out, HB4.out⟩
          case measure => simp [intOf]; omega
        · have hd : decide (p < k) = false := decide_eq_false hpk
          simp only [hd]
          have hS : (fun w' : World => w'.cell? ⟨b, off + k * 3, none⟩ = some (.int .i64 x') ∧ w'.cell? ⟨b, off + k * 3 + 1, none⟩ = some (.int .i64 r') ∧ w'.cell? ⟨b, off + k * 3 + 2, none⟩ = some (tx t') ∧ w'.cell? ⟨C, 0, none⟩ = some (.int .i64 x) ∧ w'.cell? ⟨C, 1, none⟩ = some (.int .i64 r) ∧ w'.cell? ⟨C, 2, none⟩ = some (tx t) ∧ Below wr.heap.size wr w') wr := ⟨c1, c2, c3, b1, b2, b3, Below.refl _ _⟩
          have hkp := Lib.hid (show ∀ A1 A2 : World, (fun w' : World => w'.cell? ⟨b, off + k * 3, none⟩ = some (.int .i64 x') ∧ w'.cell? ⟨b, off + k * 3 + 1, none⟩ = some (.int .i64 r') ∧ w'.cell? ⟨b, off + k * 3 + 2, none⟩ = some (tx t') ∧ w'.cell? ⟨C, 0, none⟩ = some (.int .i64 x) ∧ w'.cell? ⟨C, 1, none⟩ = some (.int .i64 r) ∧ w'.cell? ⟨C, 2, none⟩ = some (tx t) ∧ Below wr.heap.size wr w') A1 → Below A1.heap.size A1 A2 → (fun w' : World => w'.cell? ⟨b, off + k * 3, none⟩ = some (.int .i64 x') ∧ w'.cell? ⟨b, off + k * 3 + 1, none⟩ = some (.int .i64 r') ∧ w'.cell? ⟨b, off + k * 3 + 2, none⟩ = some (tx t') ∧ w'.cell? ⟨C, 0, none⟩ = some (.int .i64 x) ∧ w'.cell? ⟨C, 1, none⟩ = some (.int .i64 r) ∧ w'.cell? ⟨C, 2, none⟩ = some (tx t) ∧ Below wr.heap.size wr w') A2 from fun A1 A2 ⟨k0, k1, k2, k3, k4, k5, kb⟩ h => ⟨below_cell h k0, below_cell h k1, below_cell h k2, below_cell h k3, below_cell h k4, below_cell h k5, grow_trans kb h⟩)
          have j2 : (0 : Int) ≤ (k : Int) := by omega
          have j3 : (k : Int).toNat = k := by omega
          have j1 : (k : Int) < (l.length : Int) := by omega
          by_cases hke : p = k
          · have hq := HAQ.out hke
            obtain rfl : k = p := hke.symm
            rw [hq] at hah
            have HST := Lib.hid hat
            clear hlow hat hhigh hpb HAQ hq c1 c2 c3 b1 b2 b3
            go_wp2_with fail
            go_region_held3 (fun w' : World => w'.cell? ⟨b, off + k * 3, none⟩ = some (.int .i64 x') ∧ w'.cell? ⟨b, off + k * 3 + 1, none⟩ = some (.int .i64 r') ∧ w'.cell? ⟨b, off + k * 3 + 2, none⟩ = some (tx t') ∧ w'.cell? ⟨C, 0, none⟩ = some (.int .i64 x) ∧ w'.cell? ⟨C, 1, none⟩ = some (.int .i64 r) ∧ w'.cell? ⟨C, 2, none⟩ = some (tx t) ∧ Below wr.heap.size wr w')
              (first | assumption | exact hkp.out _ _ hS (Below.drew (Below.refl _ _)) | exact hkp.out _ _ (by assumption) ((Below.refl _ _).alloc (Nat.le_refl _) _))
              (first
                | (go_at_call 24; refine (keepB (fun w' : World => w'.cell? ⟨b, off + k * 3, none⟩ = some (.int .i64 x') ∧ w'.cell? ⟨b, off + k * 3 + 1, none⟩ = some (.int .i64 r') ∧ w'.cell? ⟨b, off + k * 3 + 2, none⟩ = some (tx t') ∧ w'.cell? ⟨C, 0, none⟩ = some (.int .i64 x) ∧ w'.cell? ⟨C, 1, none⟩ = some (.int .i64 r) ∧ w'.cell? ⟨C, 2, none⟩ = some (tx t) ∧ Below wr.heap.size wr w') hkp.out (hah _) (by assumption)).mono ?_; rintro e w9 ⟨rfl, kS⟩))
            obtain ⟨k1, k2, k3, k4, k5, k6, kb⟩ := (show (fun w' : World => w'.cell? ⟨b, off + k * 3, none⟩ = some (.int .i64 x') ∧ w'.cell? ⟨b, off + k * 3 + 1, none⟩ = some (.int .i64 r') ∧ w'.cell? ⟨b, off + k * 3 + 2, none⟩ = some (tx t') ∧ w'.cell? ⟨C, 0, none⟩ = some (.int .i64 x) ∧ w'.cell? ⟨C, 1, none⟩ = some (.int .i64 r) ∧ w'.cell? ⟨C, 2, none⟩ = some (tx t) ∧ Below wr.heap.size wr w') _ by assumption)
            have HO9 := Lib.hid (own_below HO.out kb)
            have HB9 := Lib.hid (grow_trans HB.out kb)
            have hsz9 := HB9.out.size
            clear kb hS hkp
            have HNW4 := Lib.hid (new_cells w9 [.int .i64 x, .int .i64 r, tx t] 24)
            go_wp2_with (at_builtin; refine wpList_append_own _ rfl _ _ 22 rfl w0.heap.size 24 i0 (.agg #[.int .i64 0, .int .i64 0, .string ⟨#[]⟩]) 3 32 Try.underlying22 hi hz0 hz1 hz2 rfl (by decide) _ _ _ rfl (HO9.out.alloc _) ⟨w9.heap.size, 0, none⟩ 1 1 [.int .i64 x, .int .i64 r, tx t] rfl rfl ?c1 ?c2 ?c3 ?c4 ?c5 ?_)
            case c1 => exact HNW4.out
            case c2 => intro u hu; simp at hu; rcases hu with rfl | rfl | rfl <;> rfl
            case c3 => unfold maxLen; omega
            case c4 => omega
            case c5 => simp; omega
            intro v4 w4 hown4 hg _
            have hb4 : Below w0.heap.size w0 w4 := (HB9.out.alloc hsz9 _).grown hg (by simp; omega) (fun k hk => (HO9.out.lt k hk).1)
            have HB4 := Lib.hid hb4
            have hsz4 := hb4.size
            clear hg hb4 HNW4
            have HO6 := Lib.hid (show w4.ownsRow w0.heap.size 24 3 v4 (Vt.upto l (x, r, t) k k ++ [(x, r, t)]).length (ballots (Vt.upto l (x, r, t) k k ++ [(x, r, t)])) by
              rw [ballots_snoc, List.length_append]
              exact hown4)
            have hul2 : (Vt.upto l (x, r, t) k k ++ [(x, r, t)]).length ≤ k + 2 := by rw [List.length_append]; simp; omega
            replace k1 := below_cell HB4.out D1.out
            replace k2 := below_cell HB4.out D2.out
            replace k3 := below_cell HB4.out D3.out
            clear hown4 k4 k5 k6
            have HNW5 := Lib.hid (new_cells w4 [.int .i64 x', .int .i64 r', tx t'] 24)
            go_wp2_with (at_builtin; refine wpList_append_own _ rfl _ _ 22 rfl w0.heap.size 24 i0 (.agg #[.int .i64 0, .int .i64 0, .string ⟨#[]⟩]) 3 32 Try.underlying22 hi hz0 hz1 hz2 rfl (by decide) _ _ _ rfl (HO6.out.alloc _) ⟨w4.heap.size, 0, none⟩ 1 1 [.int .i64 x', .int .i64 r', tx t'] rfl rfl ?c1 ?c2 ?c3 ?c4 ?c5 ?_)
            case c1 => exact HNW5.out
            case c2 => intro u hu; simp at hu; rcases hu with rfl | rfl | rfl <;> rfl
            case c3 => unfold maxLen; omega
            case c4 => omega
            case c5 => simp; omega
            intro v5 w5 hown5 hg _
            have hb5 : Below w0.heap.size w0 w5 := (HB4.out.alloc hsz4 _).grown hg (by simp; omega) (fun k hk => (HO6.out.lt k hk).1)
            have HB5 := Lib.hid hb5
            have hsz5 := hb5.size
            clear hg hb5 HNW5
            have HO5 := Lib.hid (show w5.ownsRow w0.heap.size 24 3 v5 (Vt.upto l (x, r, t) k (k + 1)).length (ballots (Vt.upto l (x, r, t) k (k + 1))) by
              rw [HST.out, ballots_snoc, List.length_append, List.length_append]
              exact hown5)
            clear hown5
            go_wp2
            go_roundw
            case rel => exact ⟨k + 1, by go_num, hlt, by simp, HO5.out, HB5.out⟩
            case measure => simp [intOf]; omega
          · have hq := hpb (by omega)
            rw [hq] at hah
            have HST := Lib.hid (hlow (by omega))
            clear hlow hat hhigh hpb HAQ hq c1 c2 c3 b1 b2 b3
            go_wp2_with fail
            go_region_held3 (fun w' : World => w'.cell? ⟨b, off + k * 3, none⟩ = some (.int .i64 x') ∧ w'.cell? ⟨b, off + k * 3 + 1, none⟩ = some (.int .i64 r') ∧ w'.cell? ⟨b, off + k * 3 + 2, none⟩ = some (tx t') ∧ w'.cell? ⟨C, 0, none⟩ = some (.int .i64 x) ∧ w'.cell? ⟨C, 1, none⟩ = some (.int .i64 r) ∧ w'.cell? ⟨C, 2, none⟩ = some (tx t) ∧ Below wr.heap.size wr w')
              (first | assumption | exact hkp.out _ _ hS (Below.drew (Below.refl _ _)) | exact hkp.out _ _ (by assumption) ((Below.refl _ _).alloc (Nat.le_refl _) _))
              (first
                | (go_at_call 24; refine (keepB (fun w' : World => w'.cell? ⟨b, off + k * 3, none⟩ = some (.int .i64 x') ∧ w'.cell? ⟨b, off + k * 3 + 1, none⟩ = some (.int .i64 r') ∧ w'.cell? ⟨b, off + k * 3 + 2, none⟩ = some (tx t') ∧ w'.cell? ⟨C, 0, none⟩ = some (.int .i64 x) ∧ w'.cell? ⟨C, 1, none⟩ = some (.int .i64 r) ∧ w'.cell? ⟨C, 2, none⟩ = some (tx t) ∧ Below wr.heap.size wr w') hkp.out (hah _) (by assumption)).mono ?_; rintro e w9 ⟨rfl, kS⟩))
            obtain ⟨k1, k2, k3, k4, k5, k6, kb⟩ := (show (fun w' : World => w'.cell? ⟨b, off + k * 3, none⟩ = some (.int .i64 x') ∧ w'.cell? ⟨b, off + k * 3 + 1, none⟩ = some (.int .i64 r') ∧ w'.cell? ⟨b, off + k * 3 + 2, none⟩ = some (tx t') ∧ w'.cell? ⟨C, 0, none⟩ = some (.int .i64 x) ∧ w'.cell? ⟨C, 1, none⟩ = some (.int .i64 r) ∧ w'.cell? ⟨C, 2, none⟩ = some (tx t) ∧ Below wr.heap.size wr w') _ by assumption)
            have HO9 := Lib.hid (own_below HO.out kb)
            have HB9 := Lib.hid (grow_trans HB.out kb)
            have hsz9 := HB9.out.size
            clear kb hS hkp
            have HNW4 := Lib.hid (new_cells w9 [.int .i64 x', .int .i64 r', tx t'] 24)
            go_wp2_with (at_builtin; refine wpList_append_own _ rfl _ _ 22 rfl w0.heap.size 24 i0 (.agg #[.int .i64 0, .int .i64 0, .string ⟨#[]⟩]) 3 32 Try.underlying22 hi hz0 hz1 hz2 rfl (by decide) _ _ _ rfl (HO9.out.alloc _) ⟨w9.heap.size, 0, none⟩ 1 1 [.int .i64 x', .int .i64 r', tx t'] rfl rfl ?c1 ?c2 ?c3 ?c4 ?c5 ?_)
            case c1 => exact HNW4.out
            case c2 => intro u hu; simp at hu; rcases hu with rfl | rfl | rfl <;> rfl
            case c3 => unfold maxLen; omega
            case c4 => omega
            case c5 => simp; omega
            intro v4 w4 hown4 hg _
            have hb4 : Below w0.heap.size w0 w4 := (HB9.out.alloc hsz9 _).grown hg (by simp; omega) (fun k hk => (HO9.out.lt k hk).1)
            have HB4 := Lib.hid hb4
            have hsz4 := hb4.size
            clear hg hb4 HNW4
            have HO5 := Lib.hid (show w4.ownsRow w0.heap.size 24 3 v4 (Vt.upto l (x, r, t) p (k + 1)).length (ballots (Vt.upto l (x, r, t) p (k + 1))) by
              rw [HST.out, ballots_snoc, List.length_append]
              exact hown4)
            clear hown4
            go_wp2
            go_roundw
            case rel => exact ⟨k + 1, by go_num, hlt, by simp; omega, HO5.out, HB4.out⟩
            case measure => simp [intOf]; omega
      · obtain rfl : k = l.length := by omega
        by_cases hpl : p < l.length
        · have hd : decide (p < l.length) = true := decide_eq_true hpl
          have HF := Lib.hid (HE.out hpl)
          have HFL := Lib.hid (FlatAt.own HO.out)
          simp only [hd]
          clear hd hpl HPB HPA HE HW
          go_wp2
          go_ret2
          exact ⟨_, rfl, by rw [← HF.out]; exact HFL.out, GR.out.trans (HB.out.mono GR.out.size)⟩
        · obtain rfl : p = l.length := by omega
          have hd : decide (l.length < l.length) = false := by simp
          have HF := Lib.hid (HW.out rfl)
          have b1 := below_cell HB.out B0.out
          have b2 := below_cell HB.out B1.out
          have b3 := below_cell HB.out B2.out
          simp only [hd]
          clear hd hpl HPB HPA HE HW
          have HNW4 := Lib.hid (new_cells wr [.int .i64 x, .int .i64 r, tx t] 24)
          go_wp2_with (at_builtin; refine wpList_append_own _ rfl _ _ 22 rfl w0.heap.size 24 i0 (.agg #[.int .i64 0, .int .i64 0, .string ⟨#[]⟩]) 3 32 Try.underlying22 hi hz0 hz1 hz2 rfl (by decide) _ _ _ rfl (HO.out.alloc _) ⟨wr.heap.size, 0, none⟩ 1 1 [.int .i64 x, .int .i64 r, tx t] rfl rfl ?c1 ?c2 ?c3 ?c4 ?c5 ?_)
          case c1 => exact HNW4.out
          case c2 => intro u hu; simp at hu; rcases hu with rfl | rfl | rfl <;> rfl
          case c3 => unfold maxLen; omega
          case c4 => omega
          case c5 => simp; omega
          intro v4 w4 hown4 hg _
          have hb4 : Below w0.heap.size w0 w4 := (HB.out.alloc hszr _).grown hg (by simp; omega) (fun k hk => (HO.out.lt k hk).1)
          have HB4 := Lib.hid hb4
          have hsz4 := hb4.size
          clear hg hb4 HNW4
          go_wp2
          go_ret2
          refine ⟨_, rfl, ?_, GR.out.trans (HB4.out.mono GR.out.size)⟩
          rw [← HF.out]
          apply FlatAt.own (base := w0.heap.size) (t := 24) (n := (Vt.upto l (x, r, t) l.length l.length ++ [(x, r, t)]).length)
          rw [ballots_snoc, List.length_append]
          exact hown4
end Go.Proofs.Ytjngjmhhfhkbkaa
