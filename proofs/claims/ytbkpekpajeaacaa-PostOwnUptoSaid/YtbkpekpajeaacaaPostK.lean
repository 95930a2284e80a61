/- Package post as it landed: TakeSay, TakeBallot. -/
import Derived.Test.YtbkpekpajeaacaaPostN
namespace Po
open Go.RowKit
def noS : S := (0, 0, 0, [])
def decS (s : List UInt8) : S × Nat := match tn 3 s with
  | some ([a, r, v], d) => if (named (wrap64 a) (wrap64 r) d && seat (wrap64 v)) = true then ((wrap64 a, wrap64 r, wrap64 v, d), 0) else (noS, 3)
  | _ => (noS, 3)
def takeSay (s : List UInt8) : S × Nat := if kind s = 121 then decS s.tail else (noS, 3)
def noB : Int × Int × List UInt8 := (0, 0, [])
def decB (s : List UInt8) : (Int × Int × List UInt8) × Nat := match tn 2 s with
  | some ([a, r], d) => if named (wrap64 a) (wrap64 r) d = true then ((wrap64 a, wrap64 r, d), 0) else (noB, 3)
  | _ => (noB, 3)
def takeBallot (s : List UInt8) : (Int × Int × List UInt8) × Nat := if kind s = 118 then decB s.tail else (noB, 3)
end Po
namespace Go.Proofs.Ytbkpekpajeaacaa
open Go.RowKit
set_option maxRecDepth 100000
attribute [local go_sem] ByteArray.mk_append_mk
attribute [local go_sem] ba_tail
section
variable {W : World} {B n : Nat} {T : TypeId}
theorem Blk.sets4 {x0 x1 x2 x3 : Value} (h : Blk W B T [x0, x1, x2, x3]) (y0 y1 y2 y3 : Value) : Blk ((((W.setCell ⟨B, 0, none⟩ y0).setCell ⟨B, 1, none⟩ y1).setCell ⟨B, 2, none⟩ y2).setCell ⟨B, 3, none⟩ y3) B T [y0, y1, y2, y3] := (((h.set 0 y0 rfl).set 1 y1 rfl).set 2 y2 rfl).set 3 y3 rfl
theorem Blk.sets3 {x0 x1 x2 : Value} (h : Blk W B T [x0, x1, x2]) (y0 y1 y2 : Value) : Blk (((W.setCell ⟨B, 0, none⟩ y0).setCell ⟨B, 1, none⟩ y1).setCell ⟨B, 2, none⟩ y2) B T [y0, y1, y2] := ((h.set 0 y0 rfl).set 1 y1 rfl).set 2 y2 rfl
theorem Blk.others4 {cs : List Value} {B' : Nat} (h : Blk W B T cs) (hne : B ≠ B') (y0 y1 y2 y3 : Value) : Blk ((((W.setCell ⟨B', 0, none⟩ y0).setCell ⟨B', 1, none⟩ y1).setCell ⟨B', 2, none⟩ y2).setCell ⟨B', 3, none⟩ y3) B T cs := (((h.other hne 0 y0).other hne 1 y1).other hne 2 y2).other hne 3 y3
theorem Blk.others3 {cs : List Value} {B' : Nat} (h : Blk W B T cs) (hne : B ≠ B') (y0 y1 y2 : Value) : Blk (((W.setCell ⟨B', 0, none⟩ y0).setCell ⟨B', 1, none⟩ y1).setCell ⟨B', 2, none⟩ y2) B T cs := ((h.other hne 0 y0).other hne 1 y1).other hne 2 y2
theorem below_set4P {W0 : World} (h : Below n W0 W) (hB : n ≤ B) (y0 y1 y2 y3 : Value) : Below n W0 ((((W.setCell ⟨B, 0, none⟩ y0).setCell ⟨B, 1, none⟩ y1).setCell ⟨B, 2, none⟩ y2).setCell ⟨B, 3, none⟩ y3) := (((h.setCell (p := ⟨B, 0, none⟩) hB y0).setCell (p := ⟨B, 1, none⟩) hB y1).setCell (p := ⟨B, 2, none⟩) hB y2).setCell (p := ⟨B, 3, none⟩) hB y3
theorem below_set3P {W0 : World} (h : Below n W0 W) (hB : n ≤ B) (y0 y1 y2 : Value) : Below n W0 (((W.setCell ⟨B, 0, none⟩ y0).setCell ⟨B, 1, none⟩ y1).setCell ⟨B, 2, none⟩ y2) := ((h.setCell (p := ⟨B, 0, none⟩) hB y0).setCell (p := ⟨B, 1, none⟩) hB y1).setCell (p := ⟨B, 2, none⟩) hB y2
end

set_option maxHeartbeats 4000000 in
theorem catchY_panicking (p : Addr) (u : Value) (w : World) (hc : (w.alloc (.cells #[.int .i64 3] 115)).cell? p = some u) (hz : (w.alloc (.cells #[.int .i64 3] 115)).frozen? p = false) :
    CallsD Try.prog 85 #[.pointer (some p)] (.panicking [pk3]) w fun e u' w' =>
      e = .returned (.tuple #[]) ∧ u' = .panicking [{ v := pk3.v, recovered := true }] ∧ w' = (w.alloc (.cells #[.int .i64 3] 115)).setCell p (.int .i64 3) := by
  have h1 := asY
  refine callsD_of_wpS Try.func85 rfl fun c₀ cs hu => ?_
  apply wpS_seq
  apply wpS_region
  simp [wpOpsS, go_sem, recoverD, hu, Try.ntmps85, Exit.thenS, h1]
  apply wpS_seq
  apply wpS_region
  simp [wpOpsS, go_sem, Exit.thenS, Array.replicate]
  refine wpS_cond (t := true) (by simp [Act.eval]) ?_
  simp only [if_true]
  apply wpS_region
  simp [wpOpsS, go_sem, hc, hz, bodyPostS, results, Try.results85]

set_option maxHeartbeats 4000000 in
theorem catchY_idle (p : Addr) (w : World) :
    CallsD Try.prog 85 #[.pointer (some p)] .returning w fun e u' w' => e = .returned (.tuple #[]) ∧ u' = .returning ∧ w' = w.alloc (.cells #[.int .i64 0] 115) := by
  have h1 := asN
  refine callsD_of_wpS Try.func85 rfl fun c₀ cs hu => ?_
  apply wpS_seq
  apply wpS_region
  simp [wpOpsS, go_sem, recoverD, hu, Try.ntmps85, Exit.thenS, h1]
  apply wpS_seq
  apply wpS_region
  simp [wpOpsS, go_sem, Exit.thenS, Array.replicate]
  refine wpS_cond (t := false) (by simp [Act.eval]) ?_
  simp only [Bool.false_eq_true, if_false]
  refine wpS_of_wp (wp_skip ?_)
  cases c₀
  simp_all [bodyPostS, results, Try.results85]

set_option maxHeartbeats 8000000 in
theorem pdecY (s : List UInt8) (hs : s.length ≤ 140737488351232) (w : World) : Calls Try.prog 52 #[tx s] w fun e w' => e = .returned (.tuple #[sayV (Po.decS s).1, .int .i64 (Po.decS s).2]) ∧ Below w.heap.size w w' := by
  have HN := Lib.hid (fun W hB hA h1 h2 hb => ptakeNums s 3 (w.heap.size + 1) 91 w.heap.size 30 [.int .i64 0, .int .i64 0, .int .i64 0, tx []] w.heap.size w W hs (by omega) hB hA h1 h2 hb)
  have A0 := Lib.hid ((Blk.new w 30 [.int .i64 0, .int .i64 0, .int .i64 0, tx []]).alloc (.cells #[.int .i64 0, .int .i64 0, .int .i64 0] 91))
  have B0 := Lib.hid (by have h := Blk.new (w.alloc (.cells #[.int .i64 0, .int .i64 0, .int .i64 0, tx []] 30)) 91 [.int .i64 0, .int .i64 0, .int .i64 0]; rwa [World.size_alloc] at h : Blk ((w.alloc (.cells #[.int .i64 0, .int .i64 0, .int .i64 0, tx []] 30)).alloc (.cells #[.int .i64 0, .int .i64 0, .int .i64 0] 91)) (w.heap.size + 1) 91 [.int .i64 0, .int .i64 0, .int .i64 0])
  have G0 := Lib.hid (show Below w.heap.size w ((w.alloc (.cells #[.int .i64 0, .int .i64 0, .int .i64 0, tx []] 30)).alloc (.cells #[.int .i64 0, .int .i64 0, .int .i64 0] 91)) from ((Below.refl _ _).alloc (Nat.le_refl _) _).alloc (by simp) _)
  cases ht : Po.tn 3 s with
  | none =>
    have E : Po.decS s = (Po.noS, 3) := by rw [Po.decS, ht]
    rw [E]
    go_enter Try.func52, Try.ntmps52
    go_wp2_with fail
    refine (HN.out _ B0.out A0.out (by omega) (by omega) G0.out).mono ?_
    rintro e w2 ⟨ha, hb, hh⟩
    rcases hh with ⟨l', d', ht', rfl, hB⟩ | ⟨ht', x, cs, hx, hcl, rfl, hB⟩
    · rw [ht] at ht'; simp at ht'
    match cs, hcl with
    | [k0, k1, k2], _ =>
      have HA := Lib.hid ha
      have HB := Lib.hid hB
      have G2 := Lib.hid hb
      have t1 : ((x : Int) != 0) = true := by rw [bne_iff_ne]; omega
      clear ha hb hB ht' hx
      have b0 := HB.out.cell 0 rfl
      have b1 := HB.out.cell 1 rfl
      have b2 := HB.out.cell 2 rfl
      have A3 := Lib.hid (HA.out.alloc (.cells #[.int .i64 k0, .int .i64 k1, .int .i64 k2, tx []] 30))
      have Q3 := Lib.hid (Blk.new w2 30 [.int .i64 k0, .int .i64 k1, .int .i64 k2, tx []])
      have G3 := Lib.hid (grow_trans G2.out ((Below.refl _ _).alloc (Nat.le_refl _) (.cells #[.int .i64 k0, .int .i64 k1, .int .i64 k2, tx []] 30)))
      have a0 := A3.out.cell 0 rfl
      have f0 := A3.out.free 0
      have q0 := Q3.out.cell 0 rfl
      have a1 := A3.out.cell 1 rfl
      have f1 := A3.out.free 1
      have q1 := Q3.out.cell 1 rfl
      have a2 := A3.out.cell 2 rfl
      have f2 := A3.out.free 2
      have q2 := Q3.out.cell 2 rfl
      have a3 := A3.out.cell 3 rfl
      have f3 := A3.out.free 3
      have q3 := Q3.out.cell 3 rfl
      go_wp2_with fail
      refine bodyPost_ret (v := .tuple #[.agg #[.int .i64 0, .int .i64 0, .int .i64 0, tx []], .int .i64 3]) ?_ rfl ?_
      · have hD := A3.out.sets4 (.int .i64 0) (.int .i64 0) (.int .i64 0) (tx [])
        have d0 := hD.cell 0 rfl
        have d1 := hD.cell 1 rfl
        have d2 := hD.cell 2 rfl
        have d3 := hD.cell 3 rfl
        simp [results, Try.results52, go_sem, d0, d1, d2, d3]
      · exact ⟨rfl, below_set4P G3.out (Nat.le_refl _) _ _ _ _⟩
  | some ld =>
    obtain ⟨l, d⟩ := ld
    have hl := (Po.tn_len ht).1
    match l, hl with
    | [x0, x1, x2], _ =>
    obtain ⟨z, hz⟩ : ∃ z, (Po.named (wrap64 (x0 : Int)) (wrap64 (x1 : Int)) d && Po.seat (wrap64 (x2 : Int))) = z := ⟨_, rfl⟩
    have HM := Lib.hid (pmaySay_eq hz)
    cases z with
    | false =>
      rw [show Po.decS s = (Po.noS, 3) by rw [Po.decS, ht]; simp only [hz]; simp]
      clear hz
      go_enter Try.func52, Try.ntmps52
      go_wp2_with fail
      refine (HN.out _ B0.out A0.out (by omega) (by omega) G0.out).mono ?_
      rintro e w2 ⟨ha, hb, hh⟩
      rcases hh with ⟨l', d', ht', rfl, hB⟩ | ⟨ht', x, cs, hx, hcl, rfl, hB⟩
      rotate_left
      · rw [ht] at ht'; simp at ht'
      rw [ht] at ht'
      simp only [Option.some.injEq, Prod.mk.injEq] at ht'
      obtain ⟨rfl, rfl⟩ := ht'
      have HA := Lib.hid ha
      have HB := Lib.hid hB
      have G2 := Lib.hid hb
      clear ha hb hB
      have b0 := HB.out.cell 0 rfl
      have b1 := HB.out.cell 1 rfl
      have b2 := HB.out.cell 2 rfl
      have A3 := Lib.hid (HA.out.alloc (.cells #[.int .i64 (wrap64 (x0 : Int)), .int .i64 (wrap64 (x1 : Int)), .int .i64 (wrap64 (x2 : Int)), tx d] 30))
      have Q3 := Lib.hid (Blk.new w2 30 [.int .i64 (wrap64 (x0 : Int)), .int .i64 (wrap64 (x1 : Int)), .int .i64 (wrap64 (x2 : Int)), tx d])
      have G3 := Lib.hid (grow_trans G2.out ((Below.refl _ _).alloc (Nat.le_refl _) (.cells #[.int .i64 (wrap64 (x0 : Int)), .int .i64 (wrap64 (x1 : Int)), .int .i64 (wrap64 (x2 : Int)), tx d] 30)))
      have a0 := A3.out.cell 0 rfl
      have f0 := A3.out.free 0
      have q0 := Q3.out.cell 0 rfl
      have a1 := A3.out.cell 1 rfl
      have f1 := A3.out.free 1
      have q1 := Q3.out.cell 1 rfl
      have a2 := A3.out.cell 2 rfl
      have f2 := A3.out.free 2
      have q2 := Q3.out.cell 2 rfl
      have a3 := A3.out.cell 3 rfl
      have f3 := A3.out.free 3
      have q3 := Q3.out.cell 3 rfl
      go_wp2_with fail
      refine (HM.out _).mono ?_
      rintro e w3 ⟨rfl, g3⟩
      have A3' := Lib.hid (A3.out.kept g3)
      have Q3' := Lib.hid (Q3.out.kept g3)
      have G3' := Lib.hid (grow_trans G3.out g3)
      clear g3 a0 f0 q0 a1 f1 q1 a2 f2 q2 a3 f3 q3 b0 b1 b2 A3 Q3 G3
      have A3 := Lib.hid A3'.out
      have G3 := Lib.hid G3'.out
      have a0 := A3.out.cell 0 rfl
      have f0 := A3.out.free 0
      have q0 := Q3'.out.cell 0 rfl
      have a1 := A3.out.cell 1 rfl
      have f1 := A3.out.free 1
      have q1 := Q3'.out.cell 1 rfl
      have a2 := A3.out.cell 2 rfl
      have f2 := A3.out.free 2
      have q2 := Q3'.out.cell 2 rfl
      have a3 := A3.out.cell 3 rfl
      have f3 := A3.out.free 3
      have q3 := Q3'.out.cell 3 rfl
      go_wp2_with fail
      refine bodyPost_ret (v := .tuple #[.agg #[.int .i64 0, .int .i64 0, .int .i64 0, tx []], .int .i64 3]) ?_ rfl ?_
      · have hD := A3.out.sets4 (.int .i64 0) (.int .i64 0) (.int .i64 0) (tx [])
        have d0 := hD.cell 0 rfl
        have d1 := hD.cell 1 rfl
        have d2 := hD.cell 2 rfl
        have d3 := hD.cell 3 rfl
        simp [results, Try.results52, go_sem, d0, d1, d2, d3]
      · exact ⟨rfl, below_set4P G3.out (Nat.le_refl _) _ _ _ _⟩
    | true =>
      rw [show Po.decS s = ((wrap64 (x0 : Int), wrap64 (x1 : Int), wrap64 (x2 : Int), d), 0) by rw [Po.decS, ht]; simp only [hz]; simp]
      clear hz
      go_enter Try.func52, Try.ntmps52
      go_wp2_with fail
      refine (HN.out _ B0.out A0.out (by omega) (by omega) G0.out).mono ?_
      rintro e w2 ⟨ha, hb, hh⟩
      rcases hh with ⟨l', d', ht', rfl, hB⟩ | ⟨ht', x, cs, hx, hcl, rfl, hB⟩
      rotate_left
      · rw [ht] at ht'; simp at ht'
      rw [ht] at ht'
      simp only [Option.some.injEq, Prod.mk.injEq] at ht'
      obtain ⟨rfl, rfl⟩ := ht'
      have HA := Lib.hid ha
      have HB := Lib.hid hB
      have G2 := Lib.hid hb
      clear ha hb hB
      have b0 := HB.out.cell 0 rfl
      have b1 := HB.out.cell 1 rfl
      have b2 := HB.out.cell 2 rfl
      have A3 := Lib.hid (HA.out.alloc (.cells #[.int .i64 (wrap64 (x0 : Int)), .int .i64 (wrap64 (x1 : Int)), .int .i64 (wrap64 (x2 : Int)), tx d] 30))
      have Q3 := Lib.hid (Blk.new w2 30 [.int .i64 (wrap64 (x0 : Int)), .int .i64 (wrap64 (x1 : Int)), .int .i64 (wrap64 (x2 : Int)), tx d])
      have G3 := Lib.hid (grow_trans G2.out ((Below.refl _ _).alloc (Nat.le_refl _) (.cells #[.int .i64 (wrap64 (x0 : Int)), .int .i64 (wrap64 (x1 : Int)), .int .i64 (wrap64 (x2 : Int)), tx d] 30)))
      have a0 := A3.out.cell 0 rfl
      have f0 := A3.out.free 0
      have q0 := Q3.out.cell 0 rfl
      have a1 := A3.out.cell 1 rfl
      have f1 := A3.out.free 1
      have q1 := Q3.out.cell 1 rfl
      have a2 := A3.out.cell 2 rfl
      have f2 := A3.out.free 2
      have q2 := Q3.out.cell 2 rfl
      have a3 := A3.out.cell 3 rfl
      have f3 := A3.out.free 3
      have q3 := Q3.out.cell 3 rfl
      go_wp2_with fail
      refine (HM.out _).mono ?_
      rintro e w3 ⟨rfl, g3⟩
      have A3' := Lib.hid (A3.out.kept g3)
      have Q3' := Lib.hid (Q3.out.kept g3)
      have G3' := Lib.hid (grow_trans G3.out g3)
      clear g3 a0 f0 q0 a1 f1 q1 a2 f2 q2 a3 f3 q3 b0 b1 b2 A3 Q3 G3
      have A3 := Lib.hid A3'.out
      have G3 := Lib.hid G3'.out
      have a0 := A3.out.cell 0 rfl
      have f0 := A3.out.free 0
      have q0 := Q3'.out.cell 0 rfl
      have a1 := A3.out.cell 1 rfl
      have f1 := A3.out.free 1
      have q1 := Q3'.out.cell 1 rfl
      have a2 := A3.out.cell 2 rfl
      have f2 := A3.out.free 2
      have q2 := Q3'.out.cell 2 rfl
      have a3 := A3.out.cell 3 rfl
      have f3 := A3.out.free 3
      have q3 := Q3'.out.cell 3 rfl
      go_wp2_with fail
      refine bodyPost_ret (v := .tuple #[.agg #[.int .i64 (wrap64 (x0 : Int)), .int .i64 (wrap64 (x1 : Int)), .int .i64 (wrap64 (x2 : Int)), tx d], .int .i64 0]) ?_ rfl ?_
      · have hD := A3.out.sets4 (.int .i64 (wrap64 (x0 : Int))) (.int .i64 (wrap64 (x1 : Int))) (.int .i64 (wrap64 (x2 : Int))) (tx d)
        have d0 := hD.cell 0 rfl
        have d1 := hD.cell 1 rfl
        have d2 := hD.cell 2 rfl
        have d3 := hD.cell 3 rfl
        simp [results, Try.results52, go_sem, d0, d1, d2, d3]
      · exact ⟨rfl, below_set4P G3.out (Nat.le_refl _) _ _ _ _⟩

set_option maxHeartbeats 4000000 in
theorem ptakeY_yes (c : UInt8) (s : List UInt8) (hs : s.length ≤ 140737488351232) (w : World) : Calls Try.prog 51 #[.int .u8 c.toNat, tx (c :: s), .func (.func 52) #[] #[]] w fun e w' => e = .returned (.tuple #[sayV (Po.decS s).1, .int .i64 (Po.decS s).2]) ∧ Below w.heap.size w w' := by
  have HB := Lib.hid (fun W => pbehind_yes c s W)
  have HD := Lib.hid (fun W => pdecY s hs W)
  generalize Po.decS s = R at *
  obtain ⟨p, er⟩ := R
  have hmf : ∀ (fn : Fn) (first cap : Array Value) (w : World), (Instr.makeFunc fn first cap).run Try.prog w = .ok (.func fn first cap) w := fun _ _ _ _ => rfl
  have A0 := Lib.hid ((Blk.new w 30 [.int .i64 0, .int .i64 0, .int .i64 0, tx []]).alloc (.cells #[.int .i64 0] 34))
  have B0 := Lib.hid (by have h := Blk.new (w.alloc (.cells #[.int .i64 0, .int .i64 0, .int .i64 0, tx []] 30)) 34 [.int .i64 0]; rwa [World.size_alloc] at h : Blk ((w.alloc (.cells #[.int .i64 0, .int .i64 0, .int .i64 0, tx []] 30)).alloc (.cells #[.int .i64 0] 34)) (w.heap.size + 1) 34 [.int .i64 0])
  have G0 := Lib.hid (show Below w.heap.size w ((w.alloc (.cells #[.int .i64 0, .int .i64 0, .int .i64 0, tx []] 30)).alloc (.cells #[.int .i64 0] 34)) from ((Below.refl _ _).alloc (Nat.le_refl _) _).alloc (by simp) _)
  have c0 := A0.out.cell 0 rfl
  have f0 := A0.out.free 0
  have c1 := A0.out.cell 1 rfl
  have f1 := A0.out.free 1
  have c2 := A0.out.cell 2 rfl
  have f2 := A0.out.free 2
  have c3 := A0.out.cell 3 rfl
  have f3 := A0.out.free 3
  have ce := B0.out.cell 0 rfl
  have fe := B0.out.free 0
  go_enter_defers Try.func51, Try.ntmps51
  go_wp2_with fail
  refine (HB.out _).mono ?_
  rintro e w1 ⟨rfl, rfl⟩
  go_wp2_with fail
  refine (HD.out _).mono ?_
  rintro e w1 ⟨rfl, g1⟩
  have A1 := Lib.hid (A0.out.kept g1)
  have B1 := Lib.hid (B0.out.kept g1)
  have G1 := Lib.hid (grow_trans G0.out g1)
  clear g1 ce fe c0 f0 c1 f1 c2 f2 c3 f3
  have c0 := A1.out.cell 0 rfl
  have f0 := A1.out.free 0
  have c1 := A1.out.cell 1 rfl
  have f1 := A1.out.free 1
  have c2 := A1.out.cell 2 rfl
  have f2 := A1.out.free 2
  have c3 := A1.out.cell 3 rfl
  have f3 := A1.out.free 3
  have ce := B1.out.cell 0 rfl
  have fe := B1.out.free 0
  have A2 := Lib.hid ((A1.out.sets4 (.int .i64 p.1) (.int .i64 p.2.1) (.int .i64 p.2.2.1) (tx p.2.2.2)).other (by omega : w.heap.size ≠ w.heap.size + 1) 0 (.int .i64 (er : Int)))
  have B2 := Lib.hid ((B1.out.others4 (by omega : w.heap.size + 1 ≠ w.heap.size) (.int .i64 p.1) (.int .i64 p.2.1) (.int .i64 p.2.2.1) (tx p.2.2.2)).set 0 (.int .i64 (er : Int)) rfl)
  have G2 := Lib.hid ((below_set4P G1.out (Nat.le_refl _) (.int .i64 p.1) (.int .i64 p.2.1) (.int .i64 p.2.2.1) (tx p.2.2.2)).setCell (p := ⟨w.heap.size + 1, 0, none⟩) (by simp) (.int .i64 (er : Int)))
  have A3 := Lib.hid (A2.out.alloc (.cells #[.int .i64 0] 115))
  have B3 := Lib.hid (B2.out.alloc (.cells #[.int .i64 0] 115))
  have G3 := Lib.hid (grow_trans G2.out ((Below.refl _ _).alloc (Nat.le_refl _) (.cells #[.int .i64 0] 115)))
  go_wp2_with fail
  refine leaves_cons (f := 85) (args := #[.pointer (some ⟨w.heap.size + 1, 0, none⟩)]) (by simp) (by simp [go_sem]) ?_
  refine (catchY_idle _ _).mono ?_
  rintro e u' w'' ⟨rfl, rfl, rfl⟩
  have d0 := A3.out.cell 0 rfl
  have d1 := A3.out.cell 1 rfl
  have d2 := A3.out.cell 2 rfl
  have d3 := A3.out.cell 3 rfl
  have de := B3.out.cell 0 rfl
  simp only [Leaves, settle]
  exact ⟨.tuple #[sayV p, .int .i64 er], by simp [results, Try.results51, go_sem, d0, d1, d2, d3, de], rfl, G3.out⟩

set_option maxHeartbeats 4000000 in
theorem ptakeY_no (c : UInt8) (s : List UInt8) (h : Po.kind s ≠ c) (w : World) : Calls Try.prog 51 #[.int .u8 c.toNat, tx s, .func (.func 52) #[] #[]] w fun e w' => e = .returned (.tuple #[sayV Po.noS, .int .i64 3]) ∧ Below w.heap.size w w' := by
  have HB := Lib.hid (fun W => pbehind_no c s h W)
  have hmf : ∀ (fn : Fn) (first cap : Array Value) (w : World), (Instr.makeFunc fn first cap).run Try.prog w = .ok (.func fn first cap) w := fun _ _ _ _ => rfl
  have A0 := Lib.hid ((Blk.new w 30 [.int .i64 0, .int .i64 0, .int .i64 0, tx []]).alloc (.cells #[.int .i64 0] 34))
  have B0 := Lib.hid (by have h := Blk.new (w.alloc (.cells #[.int .i64 0, .int .i64 0, .int .i64 0, tx []] 30)) 34 [.int .i64 0]; rwa [World.size_alloc] at h : Blk ((w.alloc (.cells #[.int .i64 0, .int .i64 0, .int .i64 0, tx []] 30)).alloc (.cells #[.int .i64 0] 34)) (w.heap.size + 1) 34 [.int .i64 0])
  have G0 := Lib.hid (show Below w.heap.size w ((w.alloc (.cells #[.int .i64 0, .int .i64 0, .int .i64 0, tx []] 30)).alloc (.cells #[.int .i64 0] 34)) from ((Below.refl _ _).alloc (Nat.le_refl _) _).alloc (by simp) _)
  have c0 := A0.out.cell 0 rfl
  have f0 := A0.out.free 0
  have c1 := A0.out.cell 1 rfl
  have f1 := A0.out.free 1
  have c2 := A0.out.cell 2 rfl
  have f2 := A0.out.free 2
  have c3 := A0.out.cell 3 rfl
  have f3 := A0.out.free 3
  have ce := B0.out.cell 0 rfl
  have fe := B0.out.free 0
  go_enter_defers Try.func51, Try.ntmps51
  go_wp2_with fail
  refine (HB.out _).mono ?_
  rintro e w1 ⟨rfl, rfl⟩
  go_wp2_with fail
  have A1 := Lib.hid (A0.out.alloc (.cells #[.int .i64 3] 115))
  have B1 := Lib.hid (B0.out.alloc (.cells #[.int .i64 3] 115))
  have G1 := Lib.hid (grow_trans G0.out ((Below.refl _ _).alloc (Nat.le_refl _) (.cells #[.int .i64 3] 115)))
  have A2 := Lib.hid (A1.out.other (by omega : w.heap.size ≠ w.heap.size + 1) 0 (.int .i64 3))
  have B2 := Lib.hid (B1.out.set 0 (.int .i64 3) rfl)
  have G2 := Lib.hid (G1.out.setCell (p := ⟨w.heap.size + 1, 0, none⟩) (by simp) (.int .i64 3))
  refine leaves_cons (f := 85) (args := #[.pointer (some ⟨w.heap.size + 1, 0, none⟩)]) (by simp) (by simp [go_sem]) ?_
  refine (catchY_panicking _ (.int .i64 0) _ (B1.out.cell 0 rfl) (B1.out.free 0)).mono ?_
  rintro e u' w'' ⟨rfl, rfl, rfl⟩
  simp only [settle]
  exact ⟨.tuple #[.agg #[.int .i64 0, .int .i64 0, .int .i64 0, tx []], .int .i64 3], by simp [results, Try.results51, go_sem], rfl, G2.out⟩

theorem ptakeY (s : List UInt8) (hs : s.length ≤ 140737488351232) (w : World) : Calls Try.prog 51 #[.int .u8 121, tx s, .func (.func 52) #[] #[]] w fun e w' => e = .returned (.tuple #[sayV (Po.takeSay s).1, .int .i64 (Po.takeSay s).2]) ∧ Below w.heap.size w w' := by
  by_cases h : Po.kind s = 121
  · rw [Po.takeSay, if_pos h]
    cases s with
    | nil => exact absurd h (by decide)
    | cons b s =>
      obtain rfl : b = 121 := h
      exact ptakeY_yes 121 s (by simp at hs; omega) w
  · rw [Po.takeSay, if_neg h]
    exact ptakeY_no 121 s h w

set_option maxHeartbeats 2000000 in
theorem pTakeSay (s : List UInt8) (hs : s.length ≤ 140737488351232) (w : World) : Calls Try.prog 25 #[tx s] w fun e w' => e = .returned (.tuple #[sayV (Po.takeSay s).1, .int .i64 (Po.takeSay s).2]) ∧ Below w.heap.size w w' := by
  have HT := Lib.hid (fun W => ptakeY s hs W)
  generalize Po.takeSay s = R at *
  obtain ⟨p, er⟩ := R
  have A0 := Lib.hid (Blk.new w 30 [.int .i64 0, .int .i64 0, .int .i64 0, tx []])
  have G0 := Lib.hid (show Below w.heap.size w (w.alloc (.cells #[.int .i64 0, .int .i64 0, .int .i64 0, tx []] 30)) from (Below.refl _ _).alloc (Nat.le_refl _) _)
  go_enter Try.func25, Try.ntmps25
  go_wp2_with fail
  refine (HT.out _).mono ?_
  rintro e w1 ⟨rfl, g1⟩
  have A1 := Lib.hid (A0.out.kept g1)
  have G1 := Lib.hid (grow_trans G0.out g1)
  clear g1
  have c0 := A1.out.cell 0 rfl
  have f0 := A1.out.free 0
  have c1 := A1.out.cell 1 rfl
  have f1 := A1.out.free 1
  have c2 := A1.out.cell 2 rfl
  have f2 := A1.out.free 2
  have c3 := A1.out.cell 3 rfl
  have f3 := A1.out.free 3
  go_wp2_with fail
  refine bodyPost_ret (v := .tuple #[sayV p, .int .i64 er]) ?_ rfl ?_
  · have hD := A1.out.sets4 (.int .i64 p.1) (.int .i64 p.2.1) (.int .i64 p.2.2.1) (tx p.2.2.2)
    have d0 := hD.cell 0 rfl
    have d1 := hD.cell 1 rfl
    have d2 := hD.cell 2 rfl
    have d3 := hD.cell 3 rfl
    simp [results, Try.results25, go_sem, d0, d1, d2, d3]
  · exact ⟨rfl, below_set4P G1.out (Nat.le_refl _) _ _ _ _⟩

set_option maxHeartbeats 4000000 in
theorem catchV_panicking (p : Addr) (u : Value) (w : World) (hc : (w.alloc (.cells #[.int .i64 3] 115)).cell? p = some u) (hz : (w.alloc (.cells #[.int .i64 3] 115)).frozen? p = false) :
    CallsD Try.prog 86 #[.pointer (some p)] (.panicking [pk3]) w fun e u' w' =>
      e = .returned (.tuple #[]) ∧ u' = .panicking [{ v := pk3.v, recovered := true }] ∧ w' = (w.alloc (.cells #[.int .i64 3] 115)).setCell p (.int .i64 3) := by
  have h1 := asY
  refine callsD_of_wpS Try.func86 rfl fun c₀ cs hu => ?_
  apply wpS_seq
  apply wpS_region
  simp [wpOpsS, go_sem, recoverD, hu, Try.ntmps86, Exit.thenS, h1]
  apply wpS_seq
  apply wpS_region
  simp [wpOpsS, go_sem, Exit.thenS, Array.replicate]
  refine wpS_cond (t := true) (by simp [Act.eval]) ?_
  simp only [if_true]
  apply wpS_region
  simp [wpOpsS, go_sem, hc, hz, bodyPostS, results, Try.results86]

set_option maxHeartbeats 4000000 in
theorem catchV_idle (p : Addr) (w : World) :
    CallsD Try.prog 86 #[.pointer (some p)] .returning w fun e u' w' => e = .returned (.tuple #[]) ∧ u' = .returning ∧ w' = w.alloc (.cells #[.int .i64 0] 115) := by
  have h1 := asN
  refine callsD_of_wpS Try.func86 rfl fun c₀ cs hu => ?_
  apply wpS_seq
  apply wpS_region
  simp [wpOpsS, go_sem, recoverD, hu, Try.ntmps86, Exit.thenS, h1]
  apply wpS_seq
  apply wpS_region
  simp [wpOpsS, go_sem, Exit.thenS, Array.replicate]
  refine wpS_cond (t := false) (by simp [Act.eval]) ?_
  simp only [Bool.false_eq_true, if_false]
  refine wpS_of_wp (wp_skip ?_)
  cases c₀
  simp_all [bodyPostS, results, Try.results86]

set_option maxHeartbeats 8000000 in
theorem pdecV (s : List UInt8) (hs : s.length ≤ 140737488351232) (w : World) : Calls Try.prog 56 #[tx s] w fun e w' => e = .returned (.tuple #[(balV (Po.decB s).1.1 (Po.decB s).1.2.1 (Po.decB s).1.2.2), .int .i64 (Po.decB s).2]) ∧ Below w.heap.size w w' := by
  have HN := Lib.hid (fun W hB hA h1 h2 hb => ptakeNums s 2 (w.heap.size + 1) 97 w.heap.size 47 [.int .i64 0, .int .i64 0, tx []] w.heap.size w W hs (by omega) hB hA h1 h2 hb)
  have A0 := Lib.hid ((Blk.new w 47 [.int .i64 0, .int .i64 0, tx []]).alloc (.cells #[.int .i64 0, .int .i64 0] 97))
  have B0 := Lib.hid (by have h := Blk.new (w.alloc (.cells #[.int .i64 0, .int .i64 0, tx []] 47)) 97 [.int .i64 0, .int .i64 0]; rwa [World.size_alloc] at h : Blk ((w.alloc (.cells #[.int .i64 0, .int .i64 0, tx []] 47)).alloc (.cells #[.int .i64 0, .int .i64 0] 97)) (w.heap.size + 1) 97 [.int .i64 0, .int .i64 0])
  have G0 := Lib.hid (show Below w.heap.size w ((w.alloc (.cells #[.int .i64 0, .int .i64 0, tx []] 47)).alloc (.cells #[.int .i64 0, .int .i64 0] 97)) from ((Below.refl _ _).alloc (Nat.le_refl _) _).alloc (by simp) _)
  cases ht : Po.tn 2 s with
  | none =>
    have E : Po.decB s = (Po.noB, 3) := by rw [Po.decB, ht]
    rw [E]
    go_enter Try.func56, Try.ntmps56
    go_wp2_with fail
    refine (HN.out _ B0.out A0.out (by omega) (by omega) G0.out).mono ?_
    rintro e w2 ⟨ha, hb, hh⟩
    rcases hh with ⟨l', d', ht', rfl, hB⟩ | ⟨ht', x, cs, hx, hcl, rfl, hB⟩
    · rw [ht] at ht'; simp at ht'
    match cs, hcl with
    | [k0, k1], _ =>
      have HA := Lib.hid ha
      have HB := Lib.hid hB
      have G2 := Lib.hid hb
      have t1 : ((x : Int) != 0) = true := by rw [bne_iff_ne]; omega
      clear ha hb hB ht' hx
      have b0 := HB.out.cell 0 rfl
      have b1 := HB.out.cell 1 rfl
      have A3 := Lib.hid (HA.out.alloc (.cells #[.int .i64 k0, .int .i64 k1, tx []] 47))
      have Q3 := Lib.hid (Blk.new w2 47 [.int .i64 k0, .int .i64 k1, tx []])
      have G3 := Lib.hid (grow_trans G2.out ((Below.refl _ _).alloc (Nat.le_refl _) (.cells #[.int .i64 k0, .int .i64 k1, tx []] 47)))
      have a0 := A3.out.cell 0 rfl
      have f0 := A3.out.free 0
      have q0 := Q3.out.cell 0 rfl
      have a1 := A3.out.cell 1 rfl
      have f1 := A3.out.free 1
      have q1 := Q3.out.cell 1 rfl
      have a2 := A3.out.cell 2 rfl
      have f2 := A3.out.free 2
      have q2 := Q3.out.cell 2 rfl
      go_wp2_with fail
      refine bodyPost_ret (v := .tuple #[.agg #[.int .i64 0, .int .i64 0, tx []], .int .i64 3]) ?_ rfl ?_
      · have hD := A3.out.sets3 (.int .i64 0) (.int .i64 0) (tx [])
        have d0 := hD.cell 0 rfl
        have d1 := hD.cell 1 rfl
        have d2 := hD.cell 2 rfl
        simp [results, Try.results56, go_sem, d0, d1, d2]
      · exact ⟨rfl, below_set3P G3.out (Nat.le_refl _) _ _ _⟩
  | some ld =>
    obtain ⟨l, d⟩ := ld
    have hl := (Po.tn_len ht).1
    match l, hl with
    | [x0, x1], _ =>
    obtain ⟨z, hz⟩ : ∃ z, Po.named (wrap64 (x0 : Int)) (wrap64 (x1 : Int)) d = z := ⟨_, rfl⟩
    have HM := Lib.hid (pmayBallot_eq hz)
    cases z with
    | false =>
      rw [show Po.decB s = (Po.noB, 3) by rw [Po.decB, ht]; simp only [hz]; simp]
      clear hz
      go_enter Try.func56, Try.ntmps56
      go_wp2_with fail
      refine (HN.out _ B0.out A0.out (by omega) (by omega) G0.out).mono ?_
      rintro e w2 ⟨ha, hb, hh⟩
      rcases hh with ⟨l', d', ht', rfl, hB⟩ | ⟨ht', x, cs, hx, hcl, rfl, hB⟩
      rotate_left
      · rw [ht] at ht'; simp at ht'
      rw [ht] at ht'
      simp only [Option.some.injEq, Prod.mk.injEq] at ht'
      obtain ⟨rfl, rfl⟩ := ht'
      have HA := Lib.hid ha
      have HB := Lib.hid hB
      have G2 := Lib.hid hb
      clear ha hb hB
      have b0 := HB.out.cell 0 rfl
      have b1 := HB.out.cell 1 rfl
      have A3 := Lib.hid (HA.out.alloc (.cells #[.int .i64 (wrap64 (x0 : Int)), .int .i64 (wrap64 (x1 : Int)), tx d] 47))
      have Q3 := Lib.hid (Blk.new w2 47 [.int .i64 (wrap64 (x0 : Int)), .int .i64 (wrap64 (x1 : Int)), tx d])
      have G3 := Lib.hid (grow_trans G2.out ((Below.refl _ _).alloc (Nat.le_refl _) (.cells #[.int .i64 (wrap64 (x0 : Int)), .int .i64 (wrap64 (x1 : Int)), tx d] 47)))
      have a0 := A3.out.cell 0 rfl
      have f0 := A3.out.free 0
      have q0 := Q3.out.cell 0 rfl
      have a1 := A3.out.cell 1 rfl
      have f1 := A3.out.free 1
      have q1 := Q3.out.cell 1 rfl
      have a2 := A3.out.cell 2 rfl
      have f2 := A3.out.free 2
      have q2 := Q3.out.cell 2 rfl
      go_wp2_with fail
      refine (HM.out _).mono ?_
      rintro e w3 ⟨rfl, g3⟩
      have A3' := Lib.hid (A3.out.kept g3)
      have Q3' := Lib.hid (Q3.out.kept g3)
      have G3' := Lib.hid (grow_trans G3.out g3)
      clear g3 a0 f0 q0 a1 f1 q1 a2 f2 q2 b0 b1 A3 Q3 G3
      have A3 := Lib.hid A3'.out
      have G3 := Lib.hid G3'.out
      have a0 := A3.out.cell 0 rfl
      have f0 := A3.out.free 0
      have q0 := Q3'.out.cell 0 rfl
      have a1 := A3.out.cell 1 rfl
      have f1 := A3.out.free 1
      have q1 := Q3'.out.cell 1 rfl
      have a2 := A3.out.cell 2 rfl
      have f2 := A3.out.free 2
      have q2 := Q3'.out.cell 2 rfl
      go_wp2_with fail
      refine bodyPost_ret (v := .tuple #[.agg #[.int .i64 0, .int .i64 0, tx []], .int .i64 3]) ?_ rfl ?_
      · have hD := A3.out.sets3 (.int .i64 0) (.int .i64 0) (tx [])
        have d0 := hD.cell 0 rfl
        have d1 := hD.cell 1 rfl
        have d2 := hD.cell 2 rfl
        simp [results, Try.results56, go_sem, d0, d1, d2]
      · exact ⟨rfl, below_set3P G3.out (Nat.le_refl _) _ _ _⟩
    | true =>
      rw [show Po.decB s = ((wrap64 (x0 : Int), wrap64 (x1 : Int), d), 0) by rw [Po.decB, ht]; simp only [hz]; simp]
      clear hz
      go_enter Try.func56, Try.ntmps56
      go_wp2_with fail
      refine (HN.out _ B0.out A0.out (by omega) (by omega) G0.out).mono ?_
      rintro e w2 ⟨ha, hb, hh⟩
      rcases hh with ⟨l', d', ht', rfl, hB⟩ | ⟨ht', x, cs, hx, hcl, rfl, hB⟩
      rotate_left
      · rw [ht] at ht'; simp at ht'
      rw [ht] at ht'
      simp only [Option.some.injEq, Prod.mk.injEq] at ht'
      obtain ⟨rfl, rfl⟩ := ht'
      have HA := Lib.hid ha
      have HB := Lib.hid hB
      have G2 := Lib.hid hb
      clear ha hb hB
      have b0 := HB.out.cell 0 rfl
      have b1 := HB.out.cell 1 rfl
      have A3 := Lib.hid (HA.out.alloc (.cells #[.int .i64 (wrap64 (x0 : Int)), .int .i64 (wrap64 (x1 : Int)), tx d] 47))
      have Q3 := Lib.hid (Blk.new w2 47 [.int .i64 (wrap64 (x0 : Int)), .int .i64 (wrap64 (x1 : Int)), tx d])
      have G3 := Lib.hid (grow_trans G2.out ((Below.refl _ _).alloc (Nat.le_refl _) (.cells #[.int .i64 (wrap64 (x0 : Int)), .int .i64 (wrap64 (x1 : Int)), tx d] 47)))
      have a0 := A3.out.cell 0 rfl
      have f0 := A3.out.free 0
      have q0 := Q3.out.cell 0 rfl
      have a1 := A3.out.cell 1 rfl
      have f1 := A3.out.free 1
      have q1 := Q3.out.cell 1 rfl
      have a2 := A3.out.cell 2 rfl
      have f2 := A3.out.free 2
      have q2 := Q3.out.cell 2 rfl
      go_wp2_with fail
      refine (HM.out _).mono ?_
      rintro e w3 ⟨rfl, g3⟩
      have A3' := Lib.hid (A3.out.kept g3)
      have Q3' := Lib.hid (Q3.out.kept g3)
      have G3' := Lib.hid (grow_trans G3.out g3)
      clear g3 a0 f0 q0 a1 f1 q1 a2 f2 q2 b0 b1 A3 Q3 G3
      have A3 := Lib.hid A3'.out
      have G3 := Lib.hid G3'.out
      have a0 := A3.out.cell 0 rfl
      have f0 := A3.out.free 0
      have q0 := Q3'.out.cell 0 rfl
      have a1 := A3.out.cell 1 rfl
      have f1 := A3.out.free 1
      have q1 := Q3'.out.cell 1 rfl
      have a2 := A3.out.cell 2 rfl
      have f2 := A3.out.free 2
      have q2 := Q3'.out.cell 2 rfl
      go_wp2_with fail
      refine bodyPost_ret (v := .tuple #[.agg #[.int .i64 (wrap64 (x0 : Int)), .int .i64 (wrap64 (x1 : Int)), tx d], .int .i64 0]) ?_ rfl ?_
      · have hD := A3.out.sets3 (.int .i64 (wrap64 (x0 : Int))) (.int .i64 (wrap64 (x1 : Int))) (tx d)
        have d0 := hD.cell 0 rfl
        have d1 := hD.cell 1 rfl
        have d2 := hD.cell 2 rfl
        simp [results, Try.results56, go_sem, d0, d1, d2]
      · exact ⟨rfl, below_set3P G3.out (Nat.le_refl _) _ _ _⟩

set_option maxHeartbeats 4000000 in
theorem ptakeV_yes (c : UInt8) (s : List UInt8) (hs : s.length ≤ 140737488351232) (w : World) : Calls Try.prog 55 #[.int .u8 c.toNat, tx (c :: s), .func (.func 56) #[] #[]] w fun e w' => e = .returned (.tuple #[(balV (Po.decB s).1.1 (Po.decB s).1.2.1 (Po.decB s).1.2.2), .int .i64 (Po.decB s).2]) ∧ Below w.heap.size w w' := by
  have HB := Lib.hid (fun W => pbehind_yes c s W)
  have HD := Lib.hid (fun W => pdecV s hs W)
  generalize Po.decB s = R at *
  obtain ⟨p, er⟩ := R
  have hmf : ∀ (fn : Fn) (first cap : Array Value) (w : World), (Instr.makeFunc fn first cap).run Try.prog w = .ok (.func fn first cap) w := fun _ _ _ _ => rfl
  have A0 := Lib.hid ((Blk.new w 47 [.int .i64 0, .int .i64 0, tx []]).alloc (.cells #[.int .i64 0] 34))
  have B0 := Lib.hid (by have h := Blk.new (w.alloc (.cells #[.int .i64 0, .int .i64 0, tx []] 47)) 34 [.int .i64 0]; rwa [World.size_alloc] at h : Blk ((w.alloc (.cells #[.int .i64 0, .int .i64 0, tx []] 47)).alloc (.cells #[.int .i64 0] 34)) (w.heap.size + 1) 34 [.int .i64 0])
  have G0 := Lib.hid (show Below w.heap.size w ((w.alloc (.cells #[.int .i64 0, .int .i64 0, tx []] 47)).alloc (.cells #[.int .i64 0] 34)) from ((Below.refl _ _).alloc (Nat.le_refl _) _).alloc (by simp) _)
  have c0 := A0.out.cell 0 rfl
  have f0 := A0.out.free 0
  have c1 := A0.out.cell 1 rfl
  have f1 := A0.out.free 1
  have c2 := A0.out.cell 2 rfl
  have f2 := A0.out.free 2
  have ce := B0.out.cell 0 rfl
  have fe := B0.out.free 0
  go_enter_defers Try.func55, Try.ntmps55
  go_wp2_with fail
  refine (HB.out _).mono ?_
  rintro e w1 ⟨rfl, rfl⟩
  go_wp2_with fail
  refine (HD.out _).mono ?_
  rintro e w1 ⟨rfl, g1⟩
  have A1 := Lib.hid (A0.out.kept g1)
  have B1 := Lib.hid (B0.out.kept g1)
  have G1 := Lib.hid (grow_trans G0.out g1)
  clear g1 ce fe c0 f0 c1 f1 c2 f2
  have c0 := A1.out.cell 0 rfl
  have f0 := A1.out.free 0
  have c1 := A1.out.cell 1 rfl
  have f1 := A1.out.free 1
  have c2 := A1.out.cell 2 rfl
  have f2 := A1.out.free 2
  have ce := B1.out.cell 0 rfl
  have fe := B1.out.free 0
  have A2 := Lib.hid ((A1.out.sets3 (.int .i64 p.1) (.int .i64 p.2.1) (tx p.2.2)).other (by omega : w.heap.size ≠ w.heap.size + 1) 0 (.int .i64 (er : Int)))
  have B2 := Lib.hid ((B1.out.others3 (by omega : w.heap.size + 1 ≠ w.heap.size) (.int .i64 p.1) (.int .i64 p.2.1) (tx p.2.2)).set 0 (.int .i64 (er : Int)) rfl)
  have G2 := Lib.hid ((below_set3P G1.out (Nat.le_refl _) (.int .i64 p.1) (.int .i64 p.2.1) (tx p.2.2)).setCell (p := ⟨w.heap.size + 1, 0, none⟩) (by simp) (.int .i64 (er : Int)))
  have A3 := Lib.hid (A2.out.alloc (.cells #[.int .i64 0] 115))
  have B3 := Lib.hid (B2.out.alloc (.cells #[.int .i64 0] 115))
  have G3 := Lib.hid (grow_trans G2.out ((Below.refl _ _).alloc (Nat.le_refl _) (.cells #[.int .i64 0] 115)))
  go_wp2_with fail
  refine leaves_cons (f := 86) (args := #[.pointer (some ⟨w.heap.size + 1, 0, none⟩)]) (by simp) (by simp [go_sem]) ?_
  refine (catchV_idle _ _).mono ?_
  rintro e u' w'' ⟨rfl, rfl, rfl⟩
  have d0 := A3.out.cell 0 rfl
  have d1 := A3.out.cell 1 rfl
  have d2 := A3.out.cell 2 rfl
  have de := B3.out.cell 0 rfl
  simp only [Leaves, settle]
  exact ⟨.tuple #[(balV p.1 p.2.1 p.2.2), .int .i64 er], by simp [results, Try.results55, go_sem, d0, d1, d2, de], rfl, G3.out⟩

set_option maxHeartbeats 4000000 in
theorem ptakeV_no (c : UInt8) (s : List UInt8) (h : Po.kind s ≠ c) (w : World) : Calls Try.prog 55 #[.int .u8 c.toNat, tx s, .func (.func 56) #[] #[]] w fun e w' => e = .returned (.tuple #[(balV Po.noB.1 Po.noB.2.1 Po.noB.2.2), .int .i64 3]) ∧ Below w.heap.size w w' := by
  have HB := Lib.hid (fun W => pbehind_no c s h W)
  have hmf : ∀ (fn : Fn) (first cap : Array Value) (w : World), (Instr.makeFunc fn first cap).run Try.prog w = .ok (.func fn first cap) w := fun _ _ _ _ => rfl
  have A0 := Lib.hid ((Blk.new w 47 [.int .i64 0, .int .i64 0, tx []]).alloc (.cells #[.int .i64 0] 34))
  have B0 := Lib.hid (by have h := Blk.new (w.alloc (.cells #[.int .i64 0, .int .i64 0, tx []] 47)) 34 [.int .i64 0]; rwa [World.size_alloc] at h : Blk ((w.alloc (.cells #[.int .i64 0, .int .i64 0, tx []] 47)).alloc (.cells #[.int .i64 0] 34)) (w.heap.size + 1) 34 [.int .i64 0])
  have G0 := Lib.hid (show Below w.heap.size w ((w.alloc (.cells #[.int .i64 0, .int .i64 0, tx []] 47)).alloc (.cells #[.int .i64 0] 34)) from ((Below.refl _ _).alloc (Nat.le_refl _) _).alloc (by simp) _)
  have c0 := A0.out.cell 0 rfl
  have f0 := A0.out.free 0
  have c1 := A0.out.cell 1 rfl
  have f1 := A0.out.free 1
  have c2 := A0.out.cell 2 rfl
  have f2 := A0.out.free 2
  have ce := B0.out.cell 0 rfl
  have fe := B0.out.free 0
  go_enter_defers Try.func55, Try.ntmps55
  go_wp2_with fail
  refine (HB.out _).mono ?_
  rintro e w1 ⟨rfl, rfl⟩
  go_wp2_with fail
  have A1 := Lib.hid (A0.out.alloc (.cells #[.int .i64 3] 115))
  have B1 := Lib.hid (B0.out.alloc (.cells #[.int .i64 3] 115))
  have G1 := Lib.hid (grow_trans G0.out ((Below.refl _ _).alloc (Nat.le_refl _) (.cells #[.int .i64 3] 115)))
  have A2 := Lib.hid (A1.out.other (by omega : w.heap.size ≠ w.heap.size + 1) 0 (.int .i64 3))
  have B2 := Lib.hid (B1.out.set 0 (.int .i64 3) rfl)
  have G2 := Lib.hid (G1.out.setCell (p := ⟨w.heap.size + 1, 0, none⟩) (by simp) (.int .i64 3))
  refine leaves_cons (f := 86) (args := #[.pointer (some ⟨w.heap.size + 1, 0, none⟩)]) (by simp) (by simp [go_sem]) ?_
  refine (catchV_panicking _ (.int .i64 0) _ (B1.out.cell 0 rfl) (B1.out.free 0)).mono ?_
  rintro e u' w'' ⟨rfl, rfl, rfl⟩
  simp only [settle]
  exact ⟨.tuple #[.agg #[.int .i64 0, .int .i64 0, tx []], .int .i64 3], by simp [results, Try.results55, go_sem], rfl, G2.out⟩

theorem ptakeV (s : List UInt8) (hs : s.length ≤ 140737488351232) (w : World) : Calls Try.prog 55 #[.int .u8 118, tx s, .func (.func 56) #[] #[]] w fun e w' => e = .returned (.tuple #[(balV (Po.takeBallot s).1.1 (Po.takeBallot s).1.2.1 (Po.takeBallot s).1.2.2), .int .i64 (Po.takeBallot s).2]) ∧ Below w.heap.size w w' := by
  by_cases h : Po.kind s = 118
  · rw [Po.takeBallot, if_pos h]
    cases s with
    | nil => exact absurd h (by decide)
    | cons b s =>
      obtain rfl : b = 118 := h
      exact ptakeV_yes 118 s (by simp at hs; omega) w
  · rw [Po.takeBallot, if_neg h]
    exact ptakeV_no 118 s h w

set_option maxHeartbeats 2000000 in
theorem pTakeBallot (s : List UInt8) (hs : s.length ≤ 140737488351232) (w : World) : Calls Try.prog 27 #[tx s] w fun e w' => e = .returned (.tuple #[(balV (Po.takeBallot s).1.1 (Po.takeBallot s).1.2.1 (Po.takeBallot s).1.2.2), .int .i64 (Po.takeBallot s).2]) ∧ Below w.heap.size w w' := by
  have HT := Lib.hid (fun W => ptakeV s hs W)
  generalize Po.takeBallot s = R at *
  obtain ⟨p, er⟩ := R
  have A0 := Lib.hid (Blk.new w 47 [.int .i64 0, .int .i64 0, tx []])
  have G0 := Lib.hid (show Below w.heap.size w (w.alloc (.cells #[.int .i64 0, .int .i64 0, tx []] 47)) from (Below.refl _ _).alloc (Nat.le_refl _) _)
  go_enter Try.func27, Try.ntmps27
  go_wp2_with fail
  refine (HT.out _).mono ?_
  rintro e w1 ⟨rfl, g1⟩
  have A1 := Lib.hid (A0.out.kept g1)
  have G1 := Lib.hid (grow_trans G0.out g1)
  clear g1
  have c0 := A1.out.cell 0 rfl
  have f0 := A1.out.free 0
  have c1 := A1.out.cell 1 rfl
  have f1 := A1.out.free 1
  have c2 := A1.out.cell 2 rfl
  have f2 := A1.out.free 2
  go_wp2_with fail
  refine bodyPost_ret (v := .tuple #[(balV p.1 p.2.1 p.2.2), .int .i64 er]) ?_ rfl ?_
  · have hD := A1.out.sets3 (.int .i64 p.1) (.int .i64 p.2.1) (tx p.2.2)
    have d0 := hD.cell 0 rfl
    have d1 := hD.cell 1 rfl
    have d2 := hD.cell 2 rfl
    simp [results, Try.results27, go_sem, d0, d1, d2]
  · exact ⟨rfl, below_set3P G1.out (Nat.le_refl _) _ _ _⟩
end Go.Proofs.Ytbkpekpajeaacaa
