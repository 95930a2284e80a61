/- The document's example of a vertex; how great a vertex is that was taken. -/
import Derived.Test.YtmhohnffaffdfaaVtxOpen
namespace Vt
theorem ex_may : may (1, 1, [], [], 0, 0) 4 = true := by
  rw [may_S (v := (1, 1, [], [], 0, 0)) (n := 4) (by decide) (by simp) (by simp) (by decide) (by simp only []; rw [mayP_one]; decide)]
  decide
theorem ex_bytes : bytesR (1, 1, [], [], 0, 0) 4 = ([1, 1, 1, 1, 0, 0, 0, 0], 0) := by
  rw [bytesR_ok ex_may]; decide
structure Mod (v : Vtx) : Prop where
  b : v.2.2.1.length ≤ 140737488351232
  s : Small v.2.2.1
  p : v.2.2.2.1.length ≤ 140737488351232
theorem mod_may {v : Vtx} {n : Int} (h : may v n = true) : Mod v := by
  have f := fits h
  have f1 := f.b1
  have f2 := f.p1
  have f3 := f.n2
  exact ⟨by omega, fun b hb => by have := (Bt.may_iff b).1 (f.b2 b hb); omega, by omega⟩
theorem mod_take (s : List UInt8) (n : Int) : Mod (take s n).1 := by
  rcases take_or s n with ⟨e, _⟩ | ⟨v, e, h, _⟩
  · rw [e]; exact ⟨by simp [none], fun b hb => by simp [none] at hb, by simp [none]⟩
  · rw [e]; exact mod_may h
end Vt
namespace Go.Proofs.Ytmhohnffaffdfaa
open Go.RowKit
set_option maxRecDepth 100000

theorem pwave3 (w : World) : Calls Try.prog 13 #[.int .i64 3] w fun e w' => e = .returned (.int .i64 1) ∧ w' = w := by
  go_enter Try.func13, Try.ntmps13
  go_wp2
  go_ret
  exact ⟨rfl, rfl⟩
theorem pwave4 (w : World) : Calls Try.prog 13 #[.int .i64 4] w fun e w' => e = .returned (.int .i64 2) ∧ w' = w := by
  go_enter Try.func13, Try.ntmps13
  go_wp2
  go_ret
  exact ⟨rfl, rfl⟩
set_option maxHeartbeats 2000000 in
theorem vtxShown (w : World) : Calls Try.prog 7 #[] w fun e w' => e = .returned (.bool true) ∧ Below w.heap.size w w' := by
  have hc := Lib.hid (pvbytes_eq (v := (1, 1, [], [], 0, 0)) (n := 4) Vt.ex_bytes (.slice none 0 0) (.slice none 0 0) w ⟨[], .inl ⟨none, 0, rfl, rfl⟩, trivial⟩ (.inl ⟨none, 0, rfl, rfl⟩) (by simp) (fun b hb => by cases hb) (by simp) (by omega) (by omega))
  go_enter Try.func7, Try.ntmps7
  go_wp2_with fail
  refine hc.out.mono ?_
  rintro e w1 ⟨rfl, hb⟩
  go_wp2_with fail
  refine (pwave3 _).mono ?_
  rintro e w2 ⟨rfl, rfl⟩
  go_wp2_with fail
  refine (pwave4 _).mono ?_
  rintro e w3 ⟨rfl, rfl⟩
  go_wp2_with fail
  refine (pthird_eq (r := 3) (b := true) (by decide) _).mono ?_
  rintro e w4 ⟨rfl, rfl⟩
  go_wp2
  go_ret
  exact ⟨rfl, hb⟩
end Go.Proofs.Ytmhohnffaffdfaa
