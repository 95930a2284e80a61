/- Both Blocks where the text is no block; arrays compared; a state that came in. -/
import Derived.Test.YtfjkindhdnaknaaDoorShaRWords
import Derived.Test.YtfjkindhdnaknaaDoorOpen
import Derived.Laws.StructEq
import Derived.ChangeKeysEq
namespace Go.Proofs.YtfjkindhdnaknaaDoor
open Go.RowKit Go.ChangeShapes Go.WideShapes Go.ChangeAt

theorem eqItems_self {P : Program} {e : TypeId} (he : P.plainKey e = true) (hu : P.underlying e = some (.int .u32)) (l : List Nat) (d : Nat) : ∀ (is : List Nat), (∀ i ∈ is, i < l.length) → ∀ w : World,
    (Op.eqItems (d + 1) e 1 (l.map uv).toArray (l.map uv).toArray is).run P w = .ok true w := by
  intro is
  induction is with
  | nil => intro _ w; simp [Op.eqItems]
  | cons i is ih =>
    intro h w
    have hi := h i (by simp)
    have hx : (l.map uv).toArray[i * 1]? = some (uv l[i]) := by simp [hi]
    have hp := fun w => run_part_plain (P := P) (w := w) he hx
    have hq := fun w => run_equalIn_int (P := P) w d e .u32 .u32 (l[i] : Int) (l[i] : Int) hu
    simp only [Op.eqItems, Sem.run_bind, hp, Result.andThen_ok]
    rw [show uv l[i] = Value.int .u32 (l[i] : Int) from rfl, hq]
    simp only [Result.andThen_ok, beq_self_eq_true, Bool.not_true, Bool.false_eq_true, if_false]
    exact ih (fun j hj => h j (by simp [hj])) w
theorem eq_self8 (l : List Nat) (hl : l.length = 8) (w : World) : (Op.equalIn 10000 26 (.agg (l.map uv).toArray) (.agg (l.map uv).toArray)).run Tryd.prog w = .ok true w := by
  obtain ⟨i0, hi⟩ : ∃ i, Tryd.prog.info? 23 = some i := Option.isSome_iff_exists.1 (by kernel_rfl)
  have hc : Tryd.prog.cellsOf 23 = 1 := by kernel_rfl
  have hp : Tryd.prog.plainKey 23 = true := by kernel_rfl
  rw [show (10000 : Nat) = 9999 + 1 from rfl, run_equalIn_array (P := Tryd.prog) (w := w) 9999 _ _ Tryd.underlying26 hi, hc, show (9999 : Nat) = 9998 + 1 from rfl]
  exact eqItems_self hp Tryd.underlying23 l 9998 _ (fun i h => by rw [hl]; exact List.mem_range.1 h) w
theorem eq_self64 (l : List Nat) (hl : l.length = 64) (w : World) : (Op.equalIn 10000 24 (.agg (l.map uv).toArray) (.agg (l.map uv).toArray)).run Tryd.prog w = .ok true w := by
  obtain ⟨i0, hi⟩ : ∃ i, Tryd.prog.info? 23 = some i := Option.isSome_iff_exists.1 (by kernel_rfl)
  have hc : Tryd.prog.cellsOf 23 = 1 := by kernel_rfl
  have hp : Tryd.prog.plainKey 23 = true := by kernel_rfl
  rw [show (10000 : Nat) = 9999 + 1 from rfl, run_equalIn_array (P := Tryd.prog) (w := w) 9999 _ _ Tryd.underlying24 hi, hc, show (9999 : Nat) = 9998 + 1 from rfl]
  exact eqItems_self hp Tryd.underlying23 l 9998 _ (fun i h => by rw [hl]; exact List.mem_range.1 h) w

section
variable {H : Type} {enc : TypeId × Value → H} {W : World} {base : Nat} {n : Nat} {t : TypeId} {v : Value} {y : DataW H × List MemPlace} {d : DataW H} {p : List MemPlace}
theorem trod_u32 (ht : Tryd.prog.underlying t = some (.int .u32)) (h : DataW.trod enc Tryd.prog W 0 (fun _ => true) true n t [v] = some y) : ∃ m : Nat, m < 4294967296 ∧ v = uv m := by
  obtain ⟨x, hs, rfl, wx⟩ := DataW.trod_int ht h
  cases hs
  have hb : 0 ≤ x ∧ x ≤ 4294967295 := by simpa [Lit.wf, IntKind.min, IntKind.max, IntKind.signed, IntKind.bits] using wx
  obtain ⟨m, rfl⟩ := Int.eq_ofNat_of_zero_le hb.1
  exact ⟨m, by omega, rfl⟩
theorem eightV (l : List Value) (h : l.length = 8) : ∃ a b c d e f g k, l = [a, b, c, d, e, f, g, k] := by
  match l, h with
  | [a, b, c, d, e, f, g, k], _ => exact ⟨a, b, c, d, e, f, g, k, rfl⟩
theorem open_state (o : Value.okWide Tryd.prog W .any base 26 v) (h : DataW.Trod enc Tryd.prog W 0 (fun _ => true) true 26 v d p) :
    ∃ a b c d e f g k : Nat, v = .agg #[uv a, uv b, uv c, uv d, uv e, uv f, uv g, uv k] ∧ Sh.Ok (a, b, c, d, e, f, g, k) := by
  simp only [Value.okWide, Tryd.underlying26] at o
  obtain ⟨cs, rfl, hsz, _⟩ := o
  have hC : Tryd.prog.cellsOf 26 = 8 := by kernel_rfl
  have hc : Tryd.prog.cellsOf 23 = 1 := by kernel_rfl
  obtain ⟨fuel, hf⟩ := h
  obtain ⟨xs, m, _, _, _, hxl, hall⟩ := DataW.trod_array Tryd.underlying26 hf
  obtain ⟨c0, c1, c2, c3, c4, c5, c6, c7, hcs⟩ := eightV cs.toList (by rw [Array.length_toList, hsz, hC])
  have he : (Value.agg cs).cells.toList = [c0, c1, c2, c3, c4, c5, c6, c7] := hcs
  rw [hc, he] at hall
  have each : ∀ i (hi : i < 8), ∃ m : Nat, m < 4294967296 ∧ [c0, c1, c2, c3, c4, c5, c6, c7][i] = uv m := by
    intro i hi
    have h1 := hall i hi
    rw [Nat.mul_one, List.getElem?_eq_getElem (by omega)] at h1
    have h2 : (([c0, c1, c2, c3, c4, c5, c6, c7].drop i).take 1) = [[c0, c1, c2, c3, c4, c5, c6, c7][i]] := by
      rw [List.drop_eq_getElem_cons (by simpa using hi)]
      rfl
    rw [h2] at h1
    exact trod_u32 Tryd.underlying23 h1
  obtain ⟨a, la, ea⟩ := each 0 (by decide)
  obtain ⟨b, lb, eb⟩ := each 1 (by decide)
  obtain ⟨c, lc, ec⟩ := each 2 (by decide)
  obtain ⟨d', ld, ed⟩ := each 3 (by decide)
  obtain ⟨e, le, ee⟩ := each 4 (by decide)
  obtain ⟨f, lf, ef⟩ := each 5 (by decide)
  obtain ⟨g, lg, eg⟩ := each 6 (by decide)
  obtain ⟨k, lk, ek⟩ := each 7 (by decide)
  refine ⟨a, b, c, d', e, f, g, k, ?_, la, lb, lc, ld, le, lf, lg, lk⟩
  congr 1
  apply Array.toList_inj.1
  rw [hcs]
  simp only [List.getElem_cons_zero, List.getElem_cons_succ] at ea eb ec ed ee ef eg ek
  rw [ea, eb, ec, ed, ee, ef, eg, ek]
end

set_option maxHeartbeats 1000000 in
set_option maxRecDepth 100000 in
theorem pblockN (a b c d e f g k : Nat) (bl : List UInt8) (hb : bl.length ≠ 64) (w : World) :
    Calls Tryd.prog 18 #[.agg #[uv a, uv b, uv c, uv d, uv e, uv f, uv g, uv k], tx bl] w fun ee w' => ee = .returned (.tuple #[.agg #[uv 0, uv 0, uv 0, uv 0, uv 0, uv 0, uv 0, uv 0], .int .i64 1]) ∧ Below w.heap.size w w' := by
  have t1 : ((bl.length : Int) != 64) = true := by rw [bne_iff_ne]; omega
  have hg0 : Below w.heap.size w ((w.alloc (.cells #[uv a, uv b, uv c, uv d, uv e, uv f, uv g, uv k] 26)).alloc (.cells #[.int .u32 0, .int .u32 0, .int .u32 0, .int .u32 0, .int .u32 0, .int .u32 0, .int .u32 0, .int .u32 0] 26)) := ((Below.refl _ _).alloc (Nat.le_refl _) _).alloc (by simp) _
  have HG := Lib.hid hg0
  clear hg0 hb
  go_enter Tryd.func18, Tryd.ntmps18
  go_wp2
  refine bodyPost_ret (v := .tuple #[.agg #[uv 0, uv 0, uv 0, uv 0, uv 0, uv 0, uv 0, uv 0], .int .i64 1]) (by simp [results, Tryd.results18, go_sem, uv]) rfl ⟨rfl, HG.out⟩

set_option maxHeartbeats 1000000 in
set_option maxRecDepth 100000 in
theorem rblockN (a b c d e f g k : Nat) (bl : List UInt8) (hb : bl.length ≠ 64) (w : World) :
    Calls Tryd.prog 19 #[.agg #[uv a, uv b, uv c, uv d, uv e, uv f, uv g, uv k], tx bl] w fun ee w' => ee = .returned (.tuple #[.agg #[uv 0, uv 0, uv 0, uv 0, uv 0, uv 0, uv 0, uv 0], .int .i64 1]) ∧ Below w.heap.size w w' := by
  have t1 : ((bl.length : Int) != 64) = true := by rw [bne_iff_ne]; omega
  have hg0 : Below w.heap.size w ((w.alloc (.cells #[uv a, uv b, uv c, uv d, uv e, uv f, uv g, uv k] 26)).alloc (.cells #[.int .u32 0, .int .u32 0, .int .u32 0, .int .u32 0, .int .u32 0, .int .u32 0, .int .u32 0, .int .u32 0] 26)) := ((Below.refl _ _).alloc (Nat.le_refl _) _).alloc (by simp) _
  have HG := Lib.hid hg0
  clear hg0 hb
  go_enter Tryd.func19, Tryd.ntmps19
  go_wp2
  refine bodyPost_ret (v := .tuple #[.agg #[uv 0, uv 0, uv 0, uv 0, uv 0, uv 0, uv 0, uv 0], .int .i64 1]) (by simp [results, Tryd.results19, go_sem, uv]) rfl ⟨rfl, HG.out⟩
end Go.Proofs.YtfjkindhdnaknaaDoor
