/- Package post as it landed: takeNums. -/
import Derived.Test.YtbkpekpajeaacaaPostT
namespace Po
def tn : Nat → List UInt8 → Option (List Nat × List UInt8)
  | 0, s => some ([], s)
  | k + 1, s => match tn k s with
    | none => none
    | some (l, r) => if (Dg.takeNum r).2.2 = 0 then some (l ++ [(Dg.takeNum r).1], (Dg.takeNum r).2.1) else none
theorem tn_yes {k : Nat} {s r r' : List UInt8} {l : List Nat} {v : Nat} (h : tn k s = some (l, r)) (h2 : Dg.takeNum r = (v, r', 0)) : tn (k + 1) s = some (l ++ [v], r') := by
  rw [tn, h]; simp [h2]
theorem tn_no {k : Nat} {s r : List UInt8} {l : List Nat} (h : tn k s = some (l, r)) (h2 : (Dg.takeNum r).2.2 ≠ 0) : tn (k + 1) s = none := by
  rw [tn, h]; simp [h2]
theorem tn_none {k : Nat} {s : List UInt8} (h : tn k s = none) : ∀ j, tn (k + j) s = none
  | 0 => h
  | j + 1 => by rw [← Nat.add_assoc, tn, tn_none h j]
theorem tn_len {s : List UInt8} : ∀ {k : Nat} {l : List Nat} {r : List UInt8}, tn k s = some (l, r) → l.length = k ∧ r.length ≤ s.length
  | 0, l, r, h => by rw [tn] at h; simp only [Option.some.injEq, Prod.mk.injEq] at h; rw [← h.1, ← h.2]; simp
  | k + 1, l, r, h => by
    rw [tn] at h
    split at h
    · simp at h
    · rename_i l' r' h'
      have ih := tn_len h'
      split at h
      · rename_i h0
        simp only [Option.some.injEq, Prod.mk.injEq] at h
        rw [← h.1, ← h.2]
        have hb := Dg.takeNum_rest r'
        exact ⟨by simp [ih.1], by omega⟩
      · simp at h
end Po
namespace Go.Proofs.Ytbkpekpajeaacaa
open Go.RowKit
set_option maxRecDepth 100000
attribute [local go_sem] ByteArray.mk_append_mk
abbrev iw (v : Nat) : Value := .int .i64 (wrap64 (v : Int))
theorem row_set {l : List Nat} {k N : Nat} (v : Nat) (hl : l.length = k) (hk : k < N) : (l.map iw ++ List.replicate (N - k) (Value.int .i64 0)).set k (iw v) = (l ++ [v]).map iw ++ List.replicate (N - (k + 1)) (Value.int .i64 0) := by
  obtain ⟨m, rfl⟩ : ∃ m, N = k + 1 + m := ⟨N - (k + 1), by omega⟩
  rw [show k + 1 + m - k = m + 1 by omega, show k + 1 + m - (k + 1) = m by omega, List.replicate_succ, List.set_append_right _ _ (by simp [hl])]
  simp [hl]
def TNs (s : List UInt8) (N B : Nat) (T : TypeId) (A : Nat) (TA : TypeId) (ca : List Value) (n : Nat) (w0 : World) (e : Ending) (w' : World) : Prop :=
  Blk w' A TA ca ∧ Below n w0 w' ∧
  ((∃ l r, Po.tn N s = some (l, r) ∧ e = .returned (.tuple #[tx r, .int .i64 0]) ∧ Blk w' B T (l.map iw)) ∨
   (Po.tn N s = none ∧ ∃ (x : Nat) (cs : List Int), x ≠ 0 ∧ cs.length = N ∧ e = .returned (.tuple #[tx [], .int .i64 x]) ∧ Blk w' B T (cs.map fun y => Value.int .i64 y)))

set_option maxHeartbeats 4000000 in
theorem ptakeNums (s : List UInt8) (N B : Nat) (T : TypeId) (A : Nat) (TA : TypeId) (ca : List Value) (n : Nat) (w0 w : World) (hs : s.length ≤ 140737488351232) (hN : N ≤ 100) (h : Blk w B T (List.replicate N (.int .i64 0))) (hA : Blk w A TA ca) (hne : A ≠ B) (hn : n ≤ B) (hb : Below n w0 w) :
    Calls Try.prog 53 #[tx s, .slice (some ⟨B, 0, none⟩) N N] w (TNs s N B T A TA ca n w0) := by
  have HB := Lib.hid hb
  have H := Lib.hid h
  have HA := Lib.hid hA
  clear hb h hA
  go_enter Try.func53, Try.ntmps53
  go_wp2_with fail
  go_loopw [0, 12] (fun t i wr => ∃ (k : Nat) (l : List Nat) (r : List UInt8), i = .int .i64 k ∧ k ≤ N ∧ t = tx r ∧ Po.tn k s = some (l, r) ∧ Blk wr B T (l.map iw ++ List.replicate (N - k) (.int .i64 0)) ∧ Blk wr A TA ca ∧ Below n w0 wr) (fun _ i _ => N - (intOf i).toNat)
  case atStart => exact ⟨0, [], s, rfl, by omega, rfl, rfl, by simpa using H.out, HA.out, HB.out⟩
  case round =>
    obtain ⟨k, l, r, rfl, hk, rfl, ht, h1, h2, h3⟩ := hrel
    have HT := Lib.hid ht
    have H1 := Lib.hid h1
    have H2 := Lib.hid h2
    have H3 := Lib.hid h3
    obtain ⟨hl, hr⟩ := Po.tn_len ht
    have HL := Lib.hid hl
    clear ht h1 h2 h3 HB H HA
    by_cases hlt : k < N
    · obtain ⟨v, r', e, hv⟩ : ∃ v r' e, Dg.takeNum r = (v, r', e) := ⟨_, _, _, rfl⟩
      have HV := Lib.hid hv
      have HN := Lib.hid (takeNum_eq hv (by omega))
      clear hv hr hl
      go_wp2_with fail
      refine (HN.out _).mono ?_
      rintro e1 w1 ⟨rfl, q, rfl⟩
      have B1 := Lib.hid (H1.out.drewN q)
      have B2 := Lib.hid (H2.out.drewN q)
      have B3 := Lib.hid (below_drewN H3.out q)
      generalize World.drewN _ q = w1 at *
      by_cases he : e = 0
      · subst he
        have c0 := B1.out.cell k (v := .int .i64 0) (by rw [List.getElem?_append_right (by simp [HL.out]), List.length_map, HL.out, Nat.sub_self, List.getElem?_replicate, if_pos (by omega)])
        have f0 := B1.out.free k
        go_wp2
        go_roundw
        case rel =>
          refine ⟨k + 1, l ++ [v], r', by go_num, hlt, rfl, Po.tn_yes HT.out HV.out, ?_, B2.out.other hne _ _, ?_⟩
          · exact B1.out.set k (iw v) (row_set v HL.out hlt)
          · exact B3.out.setCell (p := ⟨B, k, none⟩) hn _
        case measure => simp [intOf]; omega
      · have t1 : ((e : Int) != 0) = true := by rw [bne_iff_ne]; omega
        go_wp2
        go_ret2
        refine ⟨B2.out, B3.out, .inr ⟨?_, e, l.map (fun v : Nat => wrap64 (v : Int)) ++ List.replicate (N - k) 0, he, ?_, rfl, by simpa [Function.comp_def] using B1.out⟩⟩
        · obtain ⟨j, rfl⟩ : ∃ j, N = k + 1 + j := ⟨N - (k + 1), by omega⟩
          exact Po.tn_none (Po.tn_no HT.out (by rw [HV.out]; exact he)) j
        · simp [HL.out]; omega
    · obtain rfl : k = N := by omega
      go_wp2
      go_ret2
      exact ⟨H2.out, H3.out, .inl ⟨l, r, HT.out, rfl, by simpa using H1.out⟩⟩
end Go.Proofs.Ytbkpekpajeaacaa
