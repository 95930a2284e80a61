/- The contracts of the document's answer of layer 6: Has. -/
import Derived.Test.YtpodccgaigkalaaBookRef
import Derived.Laws.StructEq
namespace Go.Proofs.Ytpodccgaigkalaa
open Go.RowKit

/-- Two seals are the same where their seats and their texts are. -/
@[go_sem] theorem eq_seal (x z : Int) (t u : List UInt8) (w : World) : (Op.equalIn 10000 24 (.agg #[.int .i64 x, tx t]) (.agg #[.int .i64 z, tx u])).run Try.prog w = .ok (x == z && t == u) w := by
  have hS : Try.prog.underlying 24 = some (.struct (Try.prog.fieldsOf 24)) := by kernel_rfl
  have hp : Try.prog.stoodInHeld 24 = false := by kernel_rfl
  have u1 := Try.underlying3
  have u2 := Try.underlying9
  rw [show (10000 : Nat) = 9999 + 1 from rfl, run_equalIn_agg w 9999 24 _ _ hS hp]
  simp only [Program.fieldsOf, Try.underlying24]
  go_simp
  by_cases h1 : x = z <;> by_cases h2 : t = u <;> simp [h1, h2]
@[go_sem] theorem guard_seal (op : BinOp) (o1 o2 : Operand) (xs ys : Array Value) (w : World) : (eqGuard op 24 o1 o2 (.agg xs) (.agg ys)).run Try.prog w = .ok () w := run_eqGuard_agg w op 24 o1 o2 xs ys (by kernel_rfl)

set_option maxHeartbeats 1000000 in
theorem rbhas_any (v : Value) (l : List Bk.Sl) (s : Bk.Sl) (w : World) (hs : FlatAt w v 2 (seals l)) (hl : l.length ≤ 140737488351232) :
    Calls Try.prog 15 #[v, .agg #[iv s.1, tx s.2]] w fun e w' => e = .returned (.bool (Bk.has l s)) ∧ Below w.heap.size w w' := by
  obtain ⟨x, t⟩ := s
  simp only [iv]
  have grown : Below w.heap.size w (w.alloc (Obj.cells #[Value.int IntKind.i64 x, tx t] 24)) := (Below.refl _ _).alloc (Nat.le_refl _) _
  rcases flat_seals hs grown with ⟨rfl, a, cap, rfl⟩ | ⟨h0, b, off, cap, rfl, hc⟩
  · go_enter Try.func15, Try.ntmps15
    go_wp2_with fail
    refine wp_loop_rounds 1 ?_
    rw [rounds_succ]
    go_wp2
    go_ret
    exact ⟨rfl, grown⟩
  · have HC := Lib.hid hc
    have GR := Lib.hid grown
    clear hc hs grown
    go_enter Try.func15, Try.ntmps15
    go_wp2_with fail
    go_loopw [5] (fun i wr => ∃ k : Nat, i = .int .i64 k ∧ k ≤ l.length ∧ (∀ y ∈ l.take k, y ≠ (x, t)) ∧ ∃ n, wr = (w.alloc (Obj.cells #[Value.int IntKind.i64 x, tx t] 24)).drewN n) (fun i _ => l.length - (intOf i).toNat)
    case atStart => exact ⟨0, rfl, by omega, by simp, 0, rfl⟩
    case round =>
      obtain ⟨k, rfl, hk, hn, q, rfl⟩ := hrel
      have HN := Lib.hid hn
      clear hn
      by_cases hlt : k < l.length
      · obtain ⟨c1, c2⟩ := HC.out k hlt
        obtain ⟨y, hy⟩ : ∃ y, l[k] = y := ⟨_, rfl⟩
        rw [hy] at c1 c2
        obtain ⟨z, u⟩ := y
        simp only [iv] at c1 c2
        have HY := Lib.hid hy
        clear hy
        have next : ¬ ((z, u) : Bk.Sl) = (x, t) → ∀ y ∈ l.take (k + 1), y ≠ (x, t) := by
          intro hne y hy
          rw [List.take_succ_eq_append_getElem hlt, List.mem_append, List.mem_singleton] at hy
          rcases hy with hy | rfl
          · exact HN.out y hy
          · rw [HY.out]; exact hne
        have HX := Lib.hid next
        clear next
        by_cases hz : z = x
        · by_cases hu : u = t
          · subst hz hu
            have hf : Bk.has l (z, u) = true := by rw [Bk.has, decide_eq_true_iff, ← HY.out]; exact List.getElem_mem hlt
            have HF := Lib.hid hf
            clear hf
            go_wp2
            go_quiet (fail)
            go_wp2
            go_ret
            exact ⟨by rw [HF.out]; rfl, below_drewN (below_drewN GR.out _) _⟩
          · have HM := Lib.hid (HX.out fun e => hu (congrArg Prod.snd e))
            go_wp2
            go_quiet (fail)
            go_wp2
            go_roundw
            case rel => exact ⟨k + 1, by go_num, hlt, HM.out, _, rfl⟩
            case measure => simp [intOf]; omega
        · have HM := Lib.hid (HX.out fun e => hz (congrArg Prod.fst e))
          go_wp2
          go_quiet (fail)
          go_wp2
          go_roundw
          case rel => exact ⟨k + 1, by go_num, hlt, HM.out, _, rfl⟩
          case measure => simp [intOf]; omega
      · obtain rfl : k = l.length := by omega
        have hf : Bk.has l (x, t) = false := by
          rw [Bk.has, decide_eq_false_iff_not]
          intro hm
          exact HN.out _ (by rw [List.take_length]; exact hm) rfl
        have HF := Lib.hid hf
        clear hf
        go_wp2
        go_ret
        exact ⟨by rw [HF.out]; rfl, below_drewN GR.out _⟩
theorem rbhas_eq {v : Value} {l : List Bk.Sl} {s : Bk.Sl} {r : Bool} (h : Bk.has l s = r) (w : World) (hs : FlatAt w v 2 (seals l)) (hl : l.length ≤ 140737488351232) :
    Calls Try.prog 15 #[v, .agg #[iv s.1, tx s.2]] w fun e w' => e = .returned (.bool r) ∧ Below w.heap.size w w' := by subst h; exact rbhas_any v l s w hs hl
end Go.Proofs.Ytpodccgaigkalaa
