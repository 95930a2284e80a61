/- Package paper as it landed: the loop over the records of bytes. -/
import Derived.RangeFuncNested
import Derived.RangeFuncBound
import Derived.RangeFuncCalls
import Derived.RangeFuncLeaves
import Derived.Shelf.Abstract
import Derived.Shelf.RegionOpen
import Derived.OwnWalkIn
import Derived.TacticsInMore
import Derived.LoopNIn
import Derived.LoopIn
import Derived.Maps.AppendAt
import Derived.Test.YtkkiedmcpibnaaaDoorPapTake
namespace Pp
/-- Each record with how many bytes there are up to its end. -/
def mk : Nat → List (List UInt8) → List (Nat × List UInt8)
  | _, [] => []
  | o, r :: l => (o + (frm r).length, r) :: mk (o + (frm r).length) l
theorem mk_snoc (o : Nat) (l : List (List UInt8)) (r : List UInt8) : mk o (l ++ [r]) = mk o l ++ [(o + (frs (l ++ [r])).length, r)] := by
  induction l generalizing o with
  | nil => simp [mk, frs]
  | cons x l ih => simp [mk, frs, ih, Nat.add_assoc]
theorem mk_len (o : Nat) (l : List (List UInt8)) : (mk o l).length = l.length := by
  induction l generalizing o with
  | nil => rfl
  | cons x l ih => simp [mk, ih]
theorem mk_snd (o : Nat) (l : List (List UInt8)) : (mk o l).map (·.2) = l := by
  induction l generalizing o with
  | nil => rfl
  | cons x l ih => simp [mk, ih]
/-- Where one is within the records of bytes. -/
theorem rd_step {s t : List UInt8} {l : List (List UInt8)} (h : Rd s l t) {p q : List (List UInt8)} {u : List UInt8} (hl : l = p ++ q) (hu : s = frs p ++ u) :
    (q = [] → take1 u = none) ∧ (∀ r q', q = r :: q' → take1 u = some (r, frs q' ++ t)) := by
  subst hl
  have e := h.eq
  rw [frs_app, List.append_assoc] at e
  have e2 : u = frs q ++ t := List.append_cancel_left (hu.symm.trans e)
  constructor
  · rintro rfl
    rw [e2]
    exact h.last
  · rintro r q' rfl
    rw [e2, frs, List.append_assoc]
    exact take1_of r _ (h.small r (by simp))
end Pp
namespace Go.Proofs.YtkkiedmcpibnaaaDoor
open Go.RowKit Go.Shelf
set_option maxRecDepth 100000
attribute [local go_sem] ByteArray.mk_append_mk

theorem frames_any (s : List UInt8) (w : World) :
    Calls Tryd.prog 30 #[tx s] w fun e w' => e = .returned (.func (.func 39) #[] #[.pointer (some ⟨w.heap.size, 0, none⟩)]) ∧ w' = w.alloc (.cells #[tx s] 9) := by
  go_enter Tryd.func30, Tryd.ntmps30
  go_wp2
  go_ret
  exact ⟨rfl, rfl⟩

/-- What a round keeps: all below n₀, and the block B. -/
def KpB (n₀ B : Nat) (W W' : World) : Prop := Below n₀ W W' ∧ W'.heap[B]? = W.heap[B]?
theorem KpB.t {n₀ B : Nat} {X Y Z : World} (h : KpB n₀ B X Y) (k : KpB n₀ B Y Z) : KpB n₀ B X Z := ⟨h.1.trans k.1, k.2.trans h.2⟩
theorem KpB.b {n₀ B : Nat} {w : World} (hn : n₀ ≤ w.heap.size) (hB : B < w.heap.size) (W : World) (l : Nat) (o o' : Obj) (hl : w.heap.size ≤ l) (h : W.heap[l]? = some o) (h1 : o.isCells = false) (h2 : o.isWalk = false) : KpB n₀ B W (W.putObj l o') :=
  ⟨belowK_b hn W l o o' hl h h1 h2, World.putObj_heap_other (by omega)⟩
theorem grown_of {W W' : World} (h : Below W.heap.size W W') : W.grownBy W' none := ⟨h.os, h.tape, h.output, h.size, fun k hk _ => h.block k hk⟩
theorem GW.lt {W : World} (h : GW W) : 0 < W.heap.size := World.block_lt_of_cell? W _ (h 0 (by omega))
theorem GW.belowN {n₀ : Nat} {w w' : World} (h : GW w) (hn : 0 < n₀) (hb : Below n₀ w w') : GW w' := fun i hi => (World.cell?_of_block (hb.block _ hn)).trans (h i hi)

def szOf : Value → Nat
  | .string b => b.size
  | _ => 0
def okOf : Value → Nat
  | .bool true => 1
  | _ => 0
theorem take_tri (u : List UInt8) : ∃ a b c, takeV (Pp.take1 u) = .tuple #[tx a, tx b, .bool c] ∧ ((c = true ∧ Pp.take1 u = some (a, b)) ∨ (c = false ∧ Pp.take1 u = none ∧ a = [] ∧ b = [])) := by
  cases h : Pp.take1 u with
  | none => exact ⟨[], [], false, rfl, .inr ⟨rfl, rfl, rfl, rfl⟩⟩
  | some p => exact ⟨p.1, p.2, true, rfl, .inl ⟨rfl, rfl⟩⟩
theorem ptake_tri {s a b : List UInt8} {c : Bool} (h : takeV (Pp.take1 s) = .tuple #[tx a, tx b, .bool c]) (hs : s.length ≤ 140737488351232) (w : World) (hw : GW w) :
    Calls Tryd.prog 40 #[tx s] w fun e w' => e = .returned (.tuple #[tx a, tx b, .bool c]) ∧ Below w.heap.size w w' := h ▸ ptake s hs w hw
/-- What the loop's variables say. -/
def TkSt (s : List UInt8) (rs : List (List UInt8)) (J : List (Nat × List UInt8) → World → Prop) (a b : List UInt8) (c : Bool) (W : World) : Prop :=
  (c = true ∧ ∃ p q, rs = p ++ a :: q ∧ s = Pp.frs (p ++ [a]) ++ b ∧ J (Pp.mk 0 p) W) ∨ (c = false ∧ J (Pp.mk 0 rs) W ∧ b = [])
theorem tkSt_of {s t u a b : List UInt8} {c : Bool} {rs p q : List (List UInt8)} {J : List (Nat × List UInt8) → World → Prop} {W : World} (hR : Pp.Rd s rs t) (hl : rs = p ++ q) (hu : s = Pp.frs p ++ u) (h : (c = true ∧ Pp.take1 u = some (a, b)) ∨ (c = false ∧ Pp.take1 u = none ∧ a = [] ∧ b = [])) (hJ : J (Pp.mk 0 p) W) : TkSt s rs J a b c W := by
  obtain ⟨h1, h2⟩ := Pp.rd_step hR hl hu
  rcases h with ⟨rfl, h⟩ | ⟨rfl, h, rfl, rfl⟩
  · cases q with
    | nil => rw [h1 rfl] at h; exact absurd h (by simp)
    | cons r q =>
      have e := h2 r q rfl
      rw [e] at h
      simp only [Option.some.injEq, Prod.mk.injEq] at h
      obtain ⟨rfl, rfl⟩ := h
      refine .inl ⟨rfl, p, q, hl, ?_, hJ⟩
      rw [hu, (Pp.take1_some e).1, Pp.frs_app, Pp.frs_one, List.append_assoc]
  · cases q with
    | nil => rw [List.append_nil] at hl; subst hl; exact .inr ⟨rfl, hJ, rfl⟩
    | cons r q => rw [h2 r q rfl] at h; exact absurd h (by simp)

attribute [local go_sem] Oper.semAt_some
set_option maxHeartbeats 4000000 in
theorem frames1_in (n : Nat) (hn : 1 ≤ n) (l n₀ B : Nat) (s t : List UInt8) (rs : List (List UInt8)) (hs : s.length ≤ 140737488351232) (hR : Pp.Rd s rs t) (J Jx : List (Nat × List UInt8) → World → Prop)
    (hJ : ∀ p X Y, J p X → X.grownBy Y none → J p Y)
    (hY : ∀ pre x W, J pre W → pre.length < rs.length → YieldAt Fence.wide (n - 1) Tryd.prog l #[.int .i64 x.1, tx x.2] W fun e W' =>
      (e = .returned (.bool true) ∧ J (pre ++ [x]) W' ∧ KpB n₀ B W W') ∨ (e = .returned (.bool false) ∧ Jx (pre ++ [x]) W'))
    (W : World) (hBn : Boxed W B 9 (tx s)) (hg : GW W) (hgn : 0 < n₀) (hn₀ : n₀ ≤ W.heap.size) (h0 : J [] W) :
    CallsIn Fence.wide n Tryd.prog 39 #[.func (.yield l) #[] #[], .pointer (some ⟨B, 0, none⟩)] W fun e W' => (∃ v, e = .returned v) ∧
      ((∃ ys, ys = Pp.mk 0 rs ∧ J ys W') ∨ (∃ pre : List (Nat × List UInt8), True ∧ Jx pre W')) := by
  refine callsIn_of_wp Tryd.func39 rfl trivial ?_ rfl
  simp only [Tryd.ntmps39, List.size_toArray, List.length_cons, List.length_nil, Nat.reduceAdd, Nat.reduceSub, Array.replicate_succ, Array.replicate_zero, List.push_toArray, List.append_toArray, List.nil_append, List.cons_append]
  have hc := hBn.cell
  obtain ⟨a0, b0, c0, hv, hcase⟩ := take_tri s
  have hb0 : b0.length ≤ s.length := by
    rcases hcase with ⟨_, h⟩ | ⟨_, _, _, rfl⟩
    · have := congrArg List.length (Pp.take1_some h).1
      rw [List.length_append] at this
      omega
    · simp
  have HV := Lib.hid hv
  have HCS := Lib.hid hcase
  have HR := Lib.hid hR
  have HJ := Lib.hid hJ
  have HY := Lib.hid hY
  have HG := Lib.hid hg
  have HB := Lib.hid hBn
  clear hv hcase hJ hY hg hBn
  gi_wp2_with fail
  refine ⟨trivial, (callsIn_wide.2 (ptake_tri HV.out hs W HG.out)).mono ?_⟩
  rintro e w1 ⟨rfl, g1⟩
  have G1 := Lib.hid (g1.mono hn₀)
  have B1 := Lib.hid (HB.out.kept (grown_of g1) (by simp))
  have S1 := Lib.hid (tkSt_of (J := J) (p := []) (q := rs) HR.out rfl rfl HCS.out (HJ.out _ _ _ h0 (grown_of g1)))
  clear hc g1 h0 hR
  gi_wp2
  gi_loopw [3, 4, 5] (fun x y z wr => ∃ a b c, x = tx a ∧ y = tx b ∧ z = .bool c ∧ b.length ≤ s.length ∧ Below n₀ W wr ∧ Boxed wr B 9 (tx s) ∧ TkSt s rs J a b c wr) (fun _ y z _ => szOf y + okOf z)
  case atStart => exact ⟨a0, b0, c0, rfl, rfl, rfl, hb0, G1.out, B1.out, S1.out⟩
  case round =>
    obtain ⟨a, b, c, rfl, rfl, rfl, hbl, hbel, hbx, hst⟩ := hrel
    have hc := hbx.cell
    have HBX := Lib.hid hbx
    have HBL := Lib.hid hbel
    rcases hst with ⟨rfl, p, q, hpq, hsp, hJp⟩ | ⟨rfl, hJr, rfl⟩
    · obtain ⟨fn, tmps, assign, body, hy, hRR⟩ := HY.out (Pp.mk 0 p) ((Pp.frs (p ++ [a])).length, a) wr hJp (by rw [Pp.mk_len, hpq, List.length_append, List.length_cons]; omega)
      have hsl := congrArg List.length hsp
      rw [List.length_append] at hsl
      dsimp only at hy
      have HSP := Lib.hid hsp
      have HPQ := Lib.hid hpq
      obtain ⟨k, hk⟩ : ∃ k, (Pp.frs (p ++ [a])).length = k := ⟨_, rfl⟩
      have hmk : Pp.mk 0 (p ++ [a]) = Pp.mk 0 p ++ [(k, a)] := by rw [Pp.mk_snoc, ← hk]; simp
      rw [hk] at hy hRR hsl
      have HRR := Lib.hid hRR
      have HMK := Lib.hid hmk
      have e1 : (s.length : Int) - (b.length : Int) = (k : Int) := by omega
      clear hsp hpq hRR hk hmk hJp hbel hbx
      gi_wp2_with fail
      refine HRR.out.mono ?_
      rintro e W3 (⟨rfl, hJ3, hk3⟩ | ⟨rfl, hJx3⟩)
      · have hB3 : Boxed W3 B 9 (tx s) := hk3.2.trans HBX.out
        have G3 := Lib.hid (HBL.out.trans hk3.1)
        have HJ3 := Lib.hid hJ3
        obtain ⟨a2, b2, c2, hv2, hcase2⟩ := take_tri b
        have hb2 : b2.length + okOf (.bool c2) ≤ b.length := by
          rcases hcase2 with ⟨rfl, h⟩ | ⟨rfl, _, _, rfl⟩
          · have := congrArg List.length (Pp.take1_some h).1
            have := Pp.frm_len a2
            rw [List.length_append] at *
            simp [okOf]
            omega
          · simp [okOf]
        have HV2 := Lib.hid hv2
        have HC2 := Lib.hid hcase2
        have c3 := hB3.cell
        have HB3 := Lib.hid hB3
        clear hv2 hcase2 hk3 hJ3 hB3
        gi_wp2_with fail
        refine ⟨trivial, (callsIn_wide.2 (ptake_tri HV2.out (by omega) W3 (HG.out.belowN hgn G3.out))).mono ?_⟩
        rintro e w4 ⟨rfl, g4⟩
        have G4 := Lib.hid (G3.out.trans (g4.mono (by have := G3.out.size; omega)))
        have B4 := Lib.hid (HB3.out.kept (grown_of g4) (by simp))
        have S4 := Lib.hid (tkSt_of (J := J) (p := p ++ [a]) (q := q) HR.out (by rw [HPQ.out, List.append_assoc]; rfl) HSP.out HC2.out (by rw [HMK.out]; exact HJ.out _ _ _ HJ3.out (grown_of g4)))
        clear g4
        gi_wp2
        go_roundw
        case rel => exact ⟨a2, b2, c2, rfl, rfl, rfl, by omega, G4.out, B4.out, S4.out⟩
        case measure => simp [szOf, okOf, ByteArray.size] at hb2 ⊢; omega
      · gi_wp2
        go_end0
        exact ⟨⟨_, rfl⟩, .inr ⟨_, trivial, hJx3⟩⟩
    · clear hbel hbx
      gi_wp2
      refine ⟨fun _ h => (by cases h), ?_⟩
      gi_wp2
      go_end0
      exact ⟨⟨_, rfl⟩, .inl ⟨_, rfl, hJr⟩⟩

theorem frames_stops (n : Nat) (hn : 1 ≤ n) (n₀ B : Nat) (s t : List UInt8) (rs : List (List UInt8)) (hs : s.length ≤ 140737488351232) (hR : Pp.Rd s rs t) (w : World) (hB : Boxed w B 9 (tx s)) (hg : GW w) (hgn : 0 < n₀) (hn₀ : n₀ ≤ w.heap.size) :
    SeqStopsK Fence.wide n Tryd.prog 39 #[.pointer (some ⟨B, 0, none⟩)] (fun x : Nat × List UInt8 => #[Value.int .i64 x.1, tx x.2]) (KpB n₀ B) (fun ys => ys = Pp.mk 0 rs) (fun _ => True) rs.length w := fun l J Jx W hW hJ _ hY h0 =>
  frames1_in n hn l n₀ B s t rs hs hR J Jx (fun p X Y h k => hJ p X Y none h k (fun r e => by cases e)) hY W (hB.kept (grown_of hW) (by simp)) (hg.below hW) hgn (Nat.le_trans hn₀ hW.size) h0
end Go.Proofs.YtkkiedmcpibnaaaDoor
