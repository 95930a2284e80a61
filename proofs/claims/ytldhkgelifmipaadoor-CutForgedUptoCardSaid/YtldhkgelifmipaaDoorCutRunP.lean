/- The statements' runs. (Written by gen-cutrunp.py.) -/
import Derived.Test.YtldhkgelifmipaaDoorCutStep
import Derived.Test.YtldhkgelifmipaaDoorKeepR
import Derived.Deep.DeepCutAuto
namespace Ct
theorem runs_fit (l : List Stp) (k : Nat) (hk : k ≤ l.length) : Dg.sizes (runs dig nxt (l.take k)).1.2.2 ≤ stepSizes (l.take k) ∧ (runs dig nxt (l.take k)).1.2.1.length ≤ 1073741824 ∧ (runs dig nxt (l.take k)).1.1 ≤ 9223372036854775807 := by
  induction k with
  | zero => exact ⟨by simp [runs, Dg.sizes], by simp [runs], by simp [runs]⟩
  | succ k ih =>
    obtain ⟨h1, h2, h3⟩ := ih (by omega)
    have hk' : k < l.length := by omega
    obtain ⟨f1, f2, f3⟩ := feed_fit (runs dig nxt (l.take k)).1 l[k].1 h2 h3 l[k].1.length (Nat.le_refl _)
    rw [List.take_length] at f1 f2 f3
    rw [runs_step dig nxt l k hk', List.take_succ_eq_append_getElem hk', stepSizes_app]
    have e1 : stepSizes [l[k]] = Dg.sizes l[k].1 := by simp [stepSizes]
    rw [e1, rstep]
    split
    · rw [flush]
      split
      · exact ⟨by simp only; omega, f2, f3⟩
      · refine ⟨by simp [Dg.sizes], ?_, nxt_le _⟩
        show (dig _).length ≤ _
        rw [dig, sum_len]
        decide
    · exact ⟨by simp only; omega, f2, f3⟩
theorem runs_len (l : List Stp) (k : Nat) (hk : k ≤ l.length) : (runs dig nxt (l.take k)).2.length ≤ stepSizes (l.take k) + k := by
  induction k with
  | zero => simp [runs]
  | succ k ih =>
    have h1 := ih (by omega)
    have hk' : k < l.length := by omega
    have h2 := (feed_len dig nxt (runs dig nxt (l.take k)).1 l[k].1 l[k].1.length (Nat.le_refl _)).1
    rw [List.take_length] at h2
    have h3 := Dg.sizes_len l[k].1
    rw [runs_step dig nxt l k hk', List.take_succ_eq_append_getElem hk', stepSizes_app]
    have e1 : stepSizes [l[k]] = Dg.sizes l[k].1 := by simp [stepSizes]
    rw [e1, rstep]
    split
    · have h4 : (flush dig nxt (feed dig nxt (runs dig nxt (l.take k)).1 l[k].1).1).2.length ≤ 1 := by
        rw [flush]; split <;> simp
      simp only [List.length_append]
      omega
    · simp only [List.length_append]
      omega
theorem step_take (l : List Stp) (k : Nat) : stepSizes (l.take k) ≤ stepSizes l := by
  conv => rhs; rw [← List.take_append_drop k l, stepSizes_app]
  omega
end Ct
namespace Go.Proofs.YtldhkgelifmipaaDoor
open Go.RowKit Go.ChangeShapes Go.WideShapes Go.ChangeAt

/-- A step, where it stands. -/
theorem stps_row {w : World} {v : Value} {l : List Ct.Stp} {cs : List Value} (h : Src w v l.length cs) (hs : StpsM w cs l) (k : Nat) (hk : k < l.length) :
    ∃ b off cap u, v = .slice (some ⟨b, off, none⟩) l.length cap ∧ w.cell? ⟨b, off + k * 2, none⟩ = some u ∧ w.cell? ⟨b, off + k * 2 + 1, none⟩ = some (.bool l[k].2) ∧ TxAt w u l[k].1 := by
  obtain ⟨u, h1, h2, h3⟩ := hs.get k hk
  rcases h with ⟨_, h0⟩ | ⟨⟨b, off, spot⟩, c, hv, hc⟩
  · omega
  · have g1 := hc _ _ h1
    have g2 := hc _ _ h2
    obtain ⟨u0, h0, _, _⟩ := hs.get 0 (by omega)
    have g0 := hc _ _ h0
    have hspot : spot = none := by simpa [Addr.add] using World.cell?_spot g0
    subst hspot
    have ha : ∀ j, (⟨b, off, none⟩ : Addr).add j = ⟨b, off + j, none⟩ := fun j => by unfold Addr.add; split <;> simp_all
    rw [ha] at g1 g2
    exact ⟨b, off, c, u, hv, g1, by rw [Nat.add_assoc]; exact g2, h3⟩
/-- What stands behind a call of Feed: the old state, the answer boxed, its blocks. -/
structure RF (w wr : World) (D0 : Nat) (c : Ct.Blk) (out : List Ct.Blk) (uT bv : Value) (c' : Ct.Blk) (new : List Ct.Blk) (u' bv' : Value) : Prop where
  st : RS w wr (w.heap.size + 1) w.heap.size c out uT bv
  kd : KBox wr D0 24 (.int .i64 c'.1) (tx c'.2.1) u'
  tu : TxM 0 wr.heap.size wr u' c'.2.2
  row : ∃ cs, wr.ownsRow w.heap.size 25 3 bv' new.length cs ∧ BlksM 0 wr.heap.size wr cs new
  ne : D0 ≠ w.heap.size + 1 ∧ D0 ≠ w.heap.size ∧ w.heap.size ≤ D0
theorem RS.new {w wr : World} {C R D0 : Nat} {c : Ct.Blk} {out : List Ct.Blk} {uT bv : Value} (h : RS w wr C R c out uT bv) {a b e : Value} (k : KBox wr D0 24 a b e) (hd : D0 ≠ C ∧ D0 ≠ R ∧ w.heap.size ≤ D0) (x y z : Value) :
    RS w (((wr.setCell ⟨D0, 0, none⟩ x).setCell ⟨D0, 1, none⟩ y).setCell ⟨D0, 2, none⟩ z) C R c out uT bv := by
  obtain ⟨d1, d2, d3⟩ := hd
  obtain ⟨a', b', e', kr⟩ := h.kr
  obtain ⟨cs, h1, h2⟩ := h.row
  have k1 : KBox (wr.setCell ⟨D0, 0, none⟩ x) D0 24 x b e := heap_setK (k := 0) k _
  have k2 : KBox ((wr.setCell ⟨D0, 0, none⟩ x).setCell ⟨D0, 1, none⟩ y) D0 24 x y e := heap_setK (k := 1) k1 _
  have st : Stays 0 wr.heap.size wr (((wr.setCell ⟨D0, 0, none⟩ x).setCell ⟨D0, 1, none⟩ y).setCell ⟨D0, 2, none⟩ z) :=
    ((Stays.box k (Nat.zero_le _) (by decide) _ _).trans (Stays.box k1 (Nat.zero_le _) (by decide) _ _)).trans (Stays.box k2 (Nat.zero_le _) (by decide) _ _)
  have sz : (((wr.setCell ⟨D0, 0, none⟩ x).setCell ⟨D0, 1, none⟩ y).setCell ⟨D0, 2, none⟩ z).heap.size = wr.heap.size := by simp only [World.setCell, Array.size_modify]
  refine ⟨((h.kc.other (Ne.symm d1) _ _).other (Ne.symm d1) _ _).other (Ne.symm d1) _ _, ⟨a', b', e', ((kr.other (Ne.symm d2) _ _).other (Ne.symm d2) _ _).other (Ne.symm d2) _ _⟩, ?_, ⟨cs, own_box (own_box (own_box h1 k (by decide) _ _) k1 (by decide) _ _) k2 (by decide) _ _, ?_⟩, below_set3 h.b d3 _ _ _, h.ne⟩
  · rw [sz]; exact h.tu.keep st
  · rw [sz]; exact h2.keep st
/-- The answer of Feed is put into its box. -/
theorem RF.mk' {w wr : World} {D0 : Nat} {c c' : Ct.Blk} {out new : List Ct.Blk} {uT bv u' bv' : Value} {cs : List Value} (h : RS w wr (w.heap.size + 1) w.heap.size c out uT bv) {a b e : Value} (k : KBox wr D0 24 a b e) (hd : D0 ≠ w.heap.size + 1 ∧ D0 ≠ w.heap.size ∧ w.heap.size ≤ D0)
    (htu : TxM 0 wr.heap.size wr u' c'.2.2) (hrow : wr.ownsRow w.heap.size 25 3 bv' new.length cs) (hbs : BlksM 0 wr.heap.size wr cs new) :
    RF w (((wr.setCell ⟨D0, 0, none⟩ (.int .i64 c'.1)).setCell ⟨D0, 1, none⟩ (tx c'.2.1)).setCell ⟨D0, 2, none⟩ u') D0 c out uT bv c' new u' bv' := by
  have k1 : KBox (wr.setCell ⟨D0, 0, none⟩ (.int .i64 c'.1)) D0 24 (.int .i64 c'.1) b e := heap_setK (k := 0) k _
  have k2 : KBox ((wr.setCell ⟨D0, 0, none⟩ (.int .i64 c'.1)).setCell ⟨D0, 1, none⟩ (tx c'.2.1)) D0 24 (.int .i64 c'.1) (tx c'.2.1) e := heap_setK (k := 1) k1 _
  have st : Stays 0 wr.heap.size wr (((wr.setCell ⟨D0, 0, none⟩ (.int .i64 c'.1)).setCell ⟨D0, 1, none⟩ (tx c'.2.1)).setCell ⟨D0, 2, none⟩ u') :=
    ((Stays.box k (Nat.zero_le _) (by decide) _ _).trans (Stays.box k1 (Nat.zero_le _) (by decide) _ _)).trans (Stays.box k2 (Nat.zero_le _) (by decide) _ _)
  have sz : (((wr.setCell ⟨D0, 0, none⟩ (.int .i64 c'.1)).setCell ⟨D0, 1, none⟩ (tx c'.2.1)).setCell ⟨D0, 2, none⟩ u').heap.size = wr.heap.size := by simp only [World.setCell, Array.size_modify]
  refine ⟨h.new k hd _ _ _, k.set _ _ _, by rw [sz]; exact htu.keep st, ⟨cs, own_box (own_box (own_box hrow k (by decide) _ _) k1 (by decide) _ _) k2 (by decide) _ _, by rw [sz]; exact hbs.keep st⟩, hd⟩

/-- What waits now stands in the cutter. -/
structure RP (w wr : World) (D0 : Nat) (c' : Ct.Blk) (out new : List Ct.Blk) (u' bv bv' : Value) : Prop where
  st : RS w wr (w.heap.size + 1) w.heap.size c' out u' bv
  kd : KBox wr D0 24 (.int .i64 c'.1) (tx c'.2.1) u'
  row : ∃ cs, wr.ownsRow w.heap.size 25 3 bv' new.length cs ∧ BlksM 0 wr.heap.size wr cs new
theorem RF.put {w wr : World} {D0 : Nat} {c c' : Ct.Blk} {out new : List Ct.Blk} {uT bv u' bv' : Value} (h : RF w wr D0 c out uT bv c' new u' bv') :
    RP w (((wr.setCell ⟨w.heap.size + 1, 0, none⟩ (.int .i64 c'.1)).setCell ⟨w.heap.size + 1, 1, none⟩ (tx c'.2.1)).setCell ⟨w.heap.size + 1, 2, none⟩ u') D0 c' out new u' bv bv' := by
  obtain ⟨cs, h1, h2⟩ := h.row
  have k := h.st.kc
  have k1 : KBox (wr.setCell ⟨w.heap.size + 1, 0, none⟩ (.int .i64 c'.1)) (w.heap.size + 1) 24 (.int .i64 c'.1) (tx c.2.1) uT := heap_setK (k := 0) k _
  have k2 : KBox ((wr.setCell ⟨w.heap.size + 1, 0, none⟩ (.int .i64 c'.1)).setCell ⟨w.heap.size + 1, 1, none⟩ (tx c'.2.1)) (w.heap.size + 1) 24 (.int .i64 c'.1) (tx c'.2.1) uT := heap_setK (k := 1) k1 _
  have st : Stays 0 wr.heap.size wr (((wr.setCell ⟨w.heap.size + 1, 0, none⟩ (.int .i64 c'.1)).setCell ⟨w.heap.size + 1, 1, none⟩ (tx c'.2.1)).setCell ⟨w.heap.size + 1, 2, none⟩ u') :=
    ((Stays.box k (Nat.zero_le _) (by decide) _ _).trans (Stays.box k1 (Nat.zero_le _) (by decide) _ _)).trans (Stays.box k2 (Nat.zero_le _) (by decide) _ _)
  have sz : (((wr.setCell ⟨w.heap.size + 1, 0, none⟩ (.int .i64 c'.1)).setCell ⟨w.heap.size + 1, 1, none⟩ (tx c'.2.1)).setCell ⟨w.heap.size + 1, 2, none⟩ u').heap.size = wr.heap.size := by simp only [World.setCell, Array.size_modify]
  exact ⟨h.st.put h.tu, ((h.kd.other h.ne.1 _ _).other h.ne.1 _ _).other h.ne.1 _ _, ⟨cs, own_box (own_box (own_box h1 k (by decide) _ _) k1 (by decide) _ _) k2 (by decide) _ _, by rw [sz]; exact h2.keep st⟩⟩
theorem kbox_ne {W : World} {g g' : Nat} {t t' : TypeId} {a b c a' b' c' : Value} (h : KBox W g t a b c) (h' : KBox W g' t' a' b' c') (hne : t ≠ t') : g ≠ g' := by
  intro e
  subst e
  have e2 : W.heap[g]? = _ := h
  have e3 : W.heap[g]? = _ := h'
  rw [e2] at e3
  injection e3 with e3
  injection e3 with _ e3 _
  exact hne e3
/-- A cutter without texts is put into its box, then into the cutter. -/
theorem RS.flushed {w wr : World} {D0 : Nat} {c : Ct.Blk} {out : List Ct.Blk} {uT bv : Value} (h : RS w wr (w.heap.size + 1) w.heap.size c out uT bv) {a b e : Value} (k : KBox wr D0 24 a b e) (hd : D0 ≠ w.heap.size + 1 ∧ D0 ≠ w.heap.size ∧ w.heap.size ≤ D0) (m : Int) (d : List UInt8) {W1 W2 : World}
    (hW1 : ((wr.setCell ⟨D0, 0, none⟩ (.int .i64 m)).setCell ⟨D0, 1, none⟩ (tx d)).setCell ⟨D0, 2, none⟩ (.slice none 0 0) = W1) (hW2 : ((W1.setCell ⟨w.heap.size + 1, 0, none⟩ (.int .i64 m)).setCell ⟨w.heap.size + 1, 1, none⟩ (tx d)).setCell ⟨w.heap.size + 1, 2, none⟩ (.slice none 0 0) = W2) :
    KBox W1 D0 24 (.int .i64 m) (tx d) (.slice none 0 0) ∧ RS w W1 (w.heap.size + 1) w.heap.size c out uT bv ∧ RS w W2 (w.heap.size + 1) w.heap.size (m, d, []) out (.slice none 0 0) bv ∧ Stays 0 wr.heap.size wr W2 ∧ W2.heap.size = wr.heap.size
      ∧ ∀ (g : Nat) (x y z : Value), KBox wr g 25 x y z → KBox W2 g 25 x y z := by
  have r1 := h.new k hd (.int .i64 m) (tx d) (.slice none 0 0)
  rw [hW1] at r1
  have r2 := r1.put (c' := (m, d, [])) (u' := .slice none 0 0) (.inl ⟨_, _, rfl, rfl⟩)
  simp only at r2
  rw [hW2] at r2
  have k1 : KBox (wr.setCell ⟨D0, 0, none⟩ (.int .i64 m)) D0 24 (.int .i64 m) b e := heap_setK (k := 0) k _
  have k2 : KBox ((wr.setCell ⟨D0, 0, none⟩ (.int .i64 m)).setCell ⟨D0, 1, none⟩ (tx d)) D0 24 (.int .i64 m) (tx d) e := heap_setK (k := 1) k1 _
  have j0 := r1.kc
  have j1 : KBox (W1.setCell ⟨w.heap.size + 1, 0, none⟩ (.int .i64 m)) (w.heap.size + 1) 24 (.int .i64 m) (tx c.2.1) uT := heap_setK (k := 0) j0 _
  have j2 : KBox ((W1.setCell ⟨w.heap.size + 1, 0, none⟩ (.int .i64 m)).setCell ⟨w.heap.size + 1, 1, none⟩ (tx d)) (w.heap.size + 1) 24 (.int .i64 m) (tx d) uT := heap_setK (k := 1) j1 _
  have s1 : Stays 0 wr.heap.size wr W1 := by
    rw [← hW1]
    exact ((Stays.box k (Nat.zero_le _) (by decide) _ _).trans (Stays.box k1 (Nat.zero_le _) (by decide) _ _)).trans (Stays.box k2 (Nat.zero_le _) (by decide) _ _)
  have z1 : W1.heap.size = wr.heap.size := by rw [← hW1]; simp only [World.setCell, Array.size_modify]
  have s2 : Stays 0 wr.heap.size W1 W2 := by
    rw [← hW2]
    exact ((Stays.box j0 (Nat.zero_le _) (by decide) _ _).trans (Stays.box j1 (Nat.zero_le _) (by decide) _ _)).trans (Stays.box j2 (Nat.zero_le _) (by decide) _ _)
  have z2 : W2.heap.size = wr.heap.size := by rw [← hW2, ← z1]; simp only [World.setCell, Array.size_modify]
  refine ⟨by rw [← hW1]; exact k.set _ _ _, r1, r2, s1.trans s2, z2, fun g x y z hg => ?_⟩
  have n1 : g ≠ D0 := kbox_ne hg k (by decide)
  have g1 : KBox W1 g 25 x y z := by rw [← hW1]; exact ((hg.other n1 _ _).other n1 _ _).other n1 _ _
  have n2 : g ≠ w.heap.size + 1 := kbox_ne g1 j0 (by decide)
  rw [← hW2]
  exact ((g1.other n2 _ _).other n2 _ _).other n2 _ _

/-- What runs answers: the blocks, in a row of its own; what waits. -/
def RunsOut (w : World) (x : Ct.Blk × List Ct.Blk) (e : Ending) (w' : World) : Prop := ∃ bv uT cs, e = .returned (.tuple #[bv, .agg #[.int .i64 x.1.1, tx x.1.2.1, uT]]) ∧ TxAt w' uT x.1.2.2 ∧ w'.ownsRow w.heap.size 25 3 bv x.2.length cs ∧ BlksM 0 w'.heap.size w' cs x.2 ∧ Below w.heap.size w w'
set_option maxHeartbeats 16000000 in
set_option maxRecDepth 100000 in
theorem runs_any (v : Value) (l : List Ct.Stp) (cs0 : List Value) (w : World) (hs : Src w v l.length cs0) (hst : StpsM w cs0 l) (hsz : Ct.stepSizes l ≤ 4194304) (hl : l.length ≤ 40) (hw : GW w) :
    Calls Tryd.prog 23 #[v] w (RunsOut w (Ct.runs Ct.dig Ct.nxt l)) := by
  obtain ⟨i0, hi, hz0, hz1, hz2⟩ := info_parts info_blk
  have hrow := Lib.hid (fun (k : Nat) (hk : k < l.length) => stps_row hs hst k hk)
  have HFIT := Lib.hid (Ct.runs_fit l)
  have HLEN := Lib.hid (Ct.runs_len l)
  have HSTEP := Lib.hid (fun (k : Nat) (h : k < l.length) => Ct.runs_step Ct.dig Ct.nxt l k h)
  have HTAKE := Lib.hid (Ct.step_take l)
  have HSA := Lib.hid (fun (k : Nat) (h : k < l.length) => (show Ct.stepSizes (l.take k) + Dg.sizes l[k].1 ≤ 4194304 from by
    have := Ct.step_take l (k + 1)
    rw [List.take_succ_eq_append_getElem h, Ct.stepSizes_app] at this
    have e1 : Ct.stepSizes [l[k]] = Dg.sizes l[k].1 := by simp [Ct.stepSizes]
    omega))
  obtain ⟨E, hE⟩ : ∃ E, Ct.runs Ct.dig Ct.nxt l = E := ⟨_, rfl⟩
  rw [hE]
  have HEND := Lib.hid (show Ct.runs Ct.dig Ct.nxt (l.take l.length) = E by rw [List.take_length, hE])
  clear hE
  have HGW := Lib.hid hw
  obtain ⟨av, cv, rfl⟩ : ∃ a c, v = .slice a l.length c := by
    rcases hs with ⟨h, h0⟩ | ⟨ad, c, h, _⟩
    · exact ⟨none, 0, by rw [h, h0]⟩
    · exact ⟨_, _, h⟩
  clear hs hst hw
  go_enter Tryd.func23, Tryd.ntmps23
  go_wp2_with fail
  have k0 := (KBox.new w 24 (.int .i64 0) (.string ⟨#[]⟩) (.slice none 0 0)).alloc (.cells #[.int .i64 0, .string ⟨#[]⟩, .slice none 0 0] 24)
  have k1 := KBox.new (w.alloc (.cells #[.int .i64 0, .string ⟨#[]⟩, .slice none 0 0] 24)) 24 (.int .i64 0) (.string ⟨#[]⟩) (.slice none 0 0)
  simp only [World.size_alloc] at k1
  have hst0 : RS w ((w.alloc (.cells #[.int .i64 0, .string ⟨#[]⟩, .slice none 0 0] 24)).alloc (.cells #[.int .i64 0, .string ⟨#[]⟩, .slice none 0 0] 24)) (w.heap.size + 1) w.heap.size (0, [], []) [] (.slice none 0 0) (.slice none 0 0) :=
    ⟨k1, ⟨_, _, _, k0⟩, .inl ⟨_, _, rfl, rfl⟩, ⟨[], World.ownsRow_nil _ _ _ _, trivial⟩, ((Below.refl _ _).alloc (Nat.le_refl _) _).alloc (by simp) _, by omega, by omega, by omega⟩
  have HST0 := Lib.hid hst0
  clear k0 k1 hst0
  go_loopw [5, 6] (fun bv i wr => ∃ (k : Nat) (c : Ct.Blk) (out : List Ct.Blk) (uT : Value), i = .int .i64 k ∧ k ≤ l.length ∧ Ct.runs Ct.dig Ct.nxt (l.take k) = (c, out) ∧ RS w wr (w.heap.size + 1) w.heap.size c out uT bv) (fun _ i _ => l.length - (intOf i).toNat)
  case atStart => exact ⟨0, (0, [], []), [], _, rfl, by omega, rfl, HST0.out⟩
  case round =>
    obtain ⟨k, c, out, uT, rfl, hk, hrun, hrs⟩ := hrel
    by_cases hlt : k < l.length
    · obtain ⟨b, off, cap, us, hv, g1, g2, g3⟩ := hrow.out k hlt
      injection hv with e1 _ e2
      subst e1 e2
      have hfit := HFIT.out k hk
      have hlen := HLEN.out k hk
      have hsa := HSA.out k hlt
      have htk := HTAKE.out k
      have hstep := HSTEP.out k hlt
      rw [hrun] at hfit hlen hstep
      simp only at hfit hlen
      obtain ⟨⟨txs, fl⟩, htf⟩ : ∃ s, l[k] = s := ⟨_, rfl⟩
      rw [htf] at g2 g3 hsa hstep
      simp only at g2 g3 hsa
      obtain ⟨f1, f2, f3⟩ := hfit
      have HFD := Lib.hid (fun (W : World) (hu : TxAt W uT c.2.2) (hv : TxAt W us txs) hG => pcfeedT c txs uT us W hu hv (by omega) f2 f3 hG)
      have hflen := (Ct.feed_len Ct.dig Ct.nxt c txs txs.length (Nat.le_refl _)).1
      have hffit := Ct.feed_fit c txs f2 f3 txs.length (Nat.le_refl _)
      have htl := Dg.sizes_len txs
      rw [List.take_length] at hflen hffit
      obtain ⟨⟨c', new⟩, hx⟩ : ∃ r, Ct.feed Ct.dig Ct.nxt c txs = r := ⟨_, rfl⟩
      rw [hx] at HFD hflen hffit
      rw [Ct.rstep, hx] at hstep
      simp only at hstep hflen hffit
      have HSTP := Lib.hid hstep
      have HFF := Lib.hid (show Dg.sizes c'.2.2 ≤ 400000000 ∧ c'.2.1.length ≤ 1073741824 ∧ c'.1 ≤ 9223372036854775807 from ⟨by omega, hffit.2.1, hffit.2.2⟩)
      have HOL := Lib.hid (show out.length ≤ 8388648 ∧ new.length ≤ 4194304 from ⟨by omega, by omega⟩)
      obtain ⟨n, p, ls⟩ := c
      obtain ⟨n', p', ls'⟩ := c'
      simp only [blkV, iv] at HFD
      have hRS := Lib.hid (fun (W : World) (h : Below wr.heap.size wr W) => hrs.keep h)
      have HTX := Lib.hid (fun (W : World) (h : Below wr.heap.size wr W) => g3.below (hrs.b.trans (h.mono hrs.b.size)))
      have HG := Lib.hid (fun (W : World) (h : Below wr.heap.size wr W) => HGW.out.below (hrs.b.trans (h.mono hrs.b.size)))
      have HRB := Lib.hid hrs.b.size
      have HRC := Lib.hid (show w.heap.size + 1 < wr.heap.size from hrs.kc.lt)
      have HFL := Lib.hid (fun (W : World) (h : Below w.heap.size w W) => below_cell h g2)
      obtain ⟨x0, x1, x2⟩ := hrs.kc.cells
      have x3 := below_cell hrs.b g1
      have hbl : b < w.heap.size := World.block_lt_of_cell? w _ g1
      have hCR := HRC.out
      have tk : (k : Int) < (l.length : Int) := by omega
      have hS0 : (fun w' : World => w'.cell? ⟨w.heap.size + 1, 0, none⟩ = some (.int .i64 n) ∧ w'.cell? ⟨w.heap.size + 1, 1, none⟩ = some (tx p) ∧ w'.cell? ⟨w.heap.size + 1, 2, none⟩ = some uT ∧ w'.cell? ⟨b, off + k * 2, none⟩ = some us ∧ Below wr.heap.size wr w') wr := ⟨x0, x1, x2, x3, Below.refl _ _⟩
      have hkp := Lib.hid (show ∀ A1 A2 : World, (fun w' : World => w'.cell? ⟨w.heap.size + 1, 0, none⟩ = some (.int .i64 n) ∧ w'.cell? ⟨w.heap.size + 1, 1, none⟩ = some (tx p) ∧ w'.cell? ⟨w.heap.size + 1, 2, none⟩ = some uT ∧ w'.cell? ⟨b, off + k * 2, none⟩ = some us ∧ Below wr.heap.size wr w') A1 → Below A1.heap.size A1 A2 → (fun w' : World => w'.cell? ⟨w.heap.size + 1, 0, none⟩ = some (.int .i64 n) ∧ w'.cell? ⟨w.heap.size + 1, 1, none⟩ = some (tx p) ∧ w'.cell? ⟨w.heap.size + 1, 2, none⟩ = some uT ∧ w'.cell? ⟨b, off + k * 2, none⟩ = some us ∧ Below wr.heap.size wr w') A2 from fun A1 A2 ⟨q0, q1, q2, q3, qb⟩ h => ⟨below_cell h q0, below_cell h q1, below_cell h q2, below_cell h q3, grow_trans qb h⟩)
      have hBl := Lib.hid (fun (W : World) (h : (fun w' : World => w'.cell? ⟨w.heap.size + 1, 0, none⟩ = some (.int .i64 n) ∧ w'.cell? ⟨w.heap.size + 1, 1, none⟩ = some (tx p) ∧ w'.cell? ⟨w.heap.size + 1, 2, none⟩ = some uT ∧ w'.cell? ⟨b, off + k * 2, none⟩ = some us ∧ Below wr.heap.size wr w') W) => h.2.2.2.2)
      clear hrun hrs hlen hsa htk hstep htf g1 g2 g3 f1 f2 f3 hflen hffit htl hx
      go_upto_region 6 with fail
      go_cut [7, 8] (fun s7 s8 wx => ∃ (D0 : Nat) (u' : Value), s7 = .pointer (some ⟨D0, 0, none⟩) ∧ RF w wx D0 (n, p, ls) out uT u5 (n', p', ls') new u' s8)
      case first =>
        refine wp_region_held_drew (S := (fun w' : World => w'.cell? ⟨w.heap.size + 1, 0, none⟩ = some (.int .i64 n) ∧ w'.cell? ⟨w.heap.size + 1, 1, none⟩ = some (tx p) ∧ w'.cell? ⟨w.heap.size + 1, 2, none⟩ = some uT ∧ w'.cell? ⟨b, off + k * 2, none⟩ = some us ∧ Below wr.heap.size wr w')) (by kernel_rfl) ?_ (fun hHeld => ?_)
        · exact hkp.out _ _ hS0 (Below.drew (Below.refl _ _))
        refine takeW (i := 0) (v := ?_) rfl (by kernel_rfl) (by kernel_rfl) (by kernel_rfl) (fun _ _ _ h => h) (by rfl) ?_ (by assumption) ?_
        rotate_left
        focus (intro w hSw; (try dsimp only at hSw); go_simp; try (with_reducible rfl))
        simp only [Act.put, List.setIfInBounds_toArray, List.set_cons_zero, List.set_cons_succ]
        refine takeW (i := 1) (v := ?_) rfl (by kernel_rfl) (by kernel_rfl) (by kernel_rfl) (fun _ _ _ h => h) (by rfl) ?_ (by assumption) ?_
        rotate_left
        focus (intro w hSw; (try dsimp only at hSw); go_simp; try (with_reducible rfl))
        simp only [Act.put, List.setIfInBounds_toArray, List.set_cons_zero, List.set_cons_succ]
        refine takeW (i := 2) (v := ?_) rfl (by kernel_rfl) (by kernel_rfl) (by kernel_rfl) (fun _ _ _ h => h) (by rfl) ?_ (by assumption) ?_
        rotate_left
        focus (intro w hSw; (try dsimp only at hSw); go_simp; try (with_reducible rfl))
        simp only [Act.put, List.setIfInBounds_toArray, List.set_cons_zero, List.set_cons_succ]
        refine takeW (i := 3) (v := ?_) rfl (by kernel_rfl) (by kernel_rfl) (by kernel_rfl) (fun _ _ _ h => h) (by rfl) ?_ (by assumption) ?_
        rotate_left
        focus (intro w hSw; (try dsimp only at hSw); go_simp; try (with_reducible rfl))
        simp only [Act.put, List.setIfInBounds_toArray, List.set_cons_zero, List.set_cons_succ]
        refine takeW (i := 4) (v := ?_) rfl (by kernel_rfl) (by kernel_rfl) (by kernel_rfl) (fun _ _ _ h => h) (by rfl) ?_ (by assumption) ?_
        rotate_left
        focus (intro w hSw; (try dsimp only at hSw); go_simp; try (with_reducible rfl))
        simp only [Act.put, List.setIfInBounds_toArray, List.set_cons_zero, List.set_cons_succ]
        refine takeW (i := 5) (v := ?_) rfl (by kernel_rfl) (by kernel_rfl) (by kernel_rfl) (fun _ _ _ h => h) (by rfl) ?_ (by assumption) ?_
        rotate_left
        focus (intro w hSw; (try dsimp only at hSw); go_simp; try (with_reducible rfl))
        simp only [Act.put, List.setIfInBounds_toArray, List.set_cons_zero, List.set_cons_succ]
        refine readyTwo (i := 6) (j := 10) (by kernel_rfl) rfl rfl (fun K hK => ?_) (fun K hK => ?_)
        · go_simp
          refine (HFD.out _ (hRS.out _ (hBl.out _ (by assumption))).tu.at (HTX.out _ (hBl.out _ (by assumption))) (HG.out _ (hBl.out _ (by assumption)))).mono ?_
          rintro e w1 ⟨u', bv', cs', rfl, k1, k2, k3, k4, k5⟩
          obtain ⟨ua', uc', rfl⟩ := k1.len
          have kS := hkp.out _ _ (by assumption) k4
          refine hK.out _ _ kS (fun hHeld => ?_)
          clear hK K
          refine takeW (i := 7) (v := ?_) rfl (by kernel_rfl) (by kernel_rfl) (by kernel_rfl) (fun _ _ _ h => h) (by rfl) ?_ (by assumption) ?_
          rotate_left
          focus (intro w hSw; (try dsimp only at hSw); go_simp; try (with_reducible rfl))
          simp only [Act.put, List.setIfInBounds_toArray, List.set_cons_zero, List.set_cons_succ]
          refine takeW (i := 8) (v := ?_) rfl (by kernel_rfl) (by kernel_rfl) (by kernel_rfl) (fun _ _ _ h => h) (by rfl) ?_ (by assumption) ?_
          rotate_left
          focus (intro w hSw; (try dsimp only at hSw); go_simp; try (with_reducible rfl))
          simp only [Act.put, List.setIfInBounds_toArray, List.set_cons_zero, List.set_cons_succ]
          refine takeW (i := 9) (v := ?_) rfl (by kernel_rfl) (by kernel_rfl) (by kernel_rfl) (fun _ _ _ h => h) (by rfl) ?_ (by assumption) ?_
          rotate_left
          focus (intro w hSw; (try dsimp only at hSw); go_simp; try (with_reducible rfl))
          simp only [Act.put, List.setIfInBounds_toArray, List.set_cons_zero, List.set_cons_succ]
          refine readyOne (i := 10) (by kernel_rfl) rfl (fun K hK => ?_)
          go_simp
          refine hK.out _ _ ?_ (fun hHeld => ?_)
          · exact hkp.out _ _ (by assumption) ((Below.refl _ _).alloc (Nat.le_refl _) _)
          clear hK K
          refine readyOne (i := 11) (by kernel_rfl) rfl (fun K hK => ?_)
          go_simp
          refine hK.out _ _ ?_ (fun hHeld => ?_)
          · exact hkp.out _ _ kS ((Below.refl _ _).alloc (Nat.le_refl _) _)
          clear hK K
          refine takeW (i := 12) (v := ?_) rfl (by kernel_rfl) (by kernel_rfl) (by kernel_rfl) (fun _ _ _ h => h) (by rfl) ?_ (by assumption) ?_
          rotate_left
          focus (intro w hSw; (try dsimp only at hSw); go_simp; try (with_reducible rfl))
          simp only [Act.put, List.setIfInBounds_toArray, List.set_cons_zero, List.set_cons_succ]
          refine wpAnyH_done (by kernel_rfl) ?_ _
          have gA := (Below.refl w1.heap.size w1).alloc (Nat.le_refl _) (.cells #[.int .i64 n', .string ⟨List.toArray p'⟩, .slice ua' ls'.length uc'] 24)
          have hszz := (hBl.out _ kS).size
          have hRF : RF w (w1.alloc (.cells #[.int .i64 n', .string ⟨List.toArray p'⟩, .slice ua' ls'.length uc'] 24)) w1.heap.size (n, p, ls) out uT u5 (n', p', ls') new (.slice ua' ls'.length uc') bv' := ⟨(hRS.out _ (hBl.out _ kS)).keep gA, KBox.new w1 24 _ _ _, ((TxM.ofT (B := 0) k1 k5).keep (Stays.of gA)).mono (Nat.le_refl _) gA.size, ⟨_, own_keep (World.ownsRow.mono k2 (show w.heap.size ≤ _ from HRB.out)) gA, (k3.keep (Stays.of gA)).mono (Nat.le_refl _) gA.size⟩, by omega, by omega, by omega⟩
          have HRF := Lib.hid hRF
          clear k1 k2 k3 k4 k5 gA hRF hszz
          go_wp2
          go_meet
          exact ⟨_, _, rfl, HRF.out⟩
        · go_simp
          refine hK.out _ _ ?_ (fun hHeld => ?_)
          · exact hkp.out _ _ (by assumption) ((Below.refl _ _).alloc (Nat.le_refl _) _)
          clear hK K
          have kd : KBox (World.alloc wr.drew (.cells #[.int .i64 0, .string ⟨#[]⟩, .slice none 0 0] 24)) wr.heap.size 24 (.int .i64 0) (.string ⟨#[]⟩) (.slice none 0 0) := KBox.new wr.drew 24 (.int .i64 0) (.string ⟨#[]⟩) (.slice none 0 0)
          refine readyOne (i := 6) (by kernel_rfl) rfl (fun K hK => ?_)
          go_simp
          refine (HFD.out _ (hRS.out _ (hBl.out _ (by assumption))).tu.at (HTX.out _ (hBl.out _ (by assumption))) (HG.out _ (hBl.out _ (by assumption)))).mono ?_
          rintro e w1 ⟨u', bv', cs', rfl, k1, k2, k3, k4, k5⟩
          obtain ⟨ua', uc', rfl⟩ := k1.len
          have kS := hkp.out _ _ (by assumption) k4
          have r1 := hRS.out _ (hBl.out _ kS)
          have kd1 := kd.kept k4
          have htu := TxM.ofT (B := 0) k1 k5
          have hrw := World.ownsRow.mono k2 (show w.heap.size ≤ _ from by have := HRB.out; simp; omega)
          have hbs := k3
          obtain ⟨y0, y1, y2⟩ := kd1.cells
          obtain ⟨f0, f1, f2⟩ := kd1.free
          have hD : wr.heap.size ≤ wr.heap.size := Nat.le_refl _
          have hn1 : wr.heap.size ≠ w.heap.size + 1 := by omega
          have hn2 : wr.heap.size ≠ b := by omega
          refine hK.out _ _ kS (fun hHeld => ?_)
          clear hK K
          refine takeW (i := 7) (v := ?_) rfl (by kernel_rfl) (by kernel_rfl) (by kernel_rfl) (fun _ _ _ h => h) (by rfl) ?_ (by assumption) ?_
          rotate_left
          focus (intro w hSw; (try dsimp only at hSw); go_simp; try (with_reducible rfl))
          simp only [Act.put, List.setIfInBounds_toArray, List.set_cons_zero, List.set_cons_succ]
          refine takeW (i := 8) (v := ?_) rfl (by kernel_rfl) (by kernel_rfl) (by kernel_rfl) (fun _ _ _ h => h) (by rfl) ?_ (by assumption) ?_
          rotate_left
          focus (intro w hSw; (try dsimp only at hSw); go_simp; try (with_reducible rfl))
          simp only [Act.put, List.setIfInBounds_toArray, List.set_cons_zero, List.set_cons_succ]
          refine takeW (i := 9) (v := ?_) rfl (by kernel_rfl) (by kernel_rfl) (by kernel_rfl) (fun _ _ _ h => h) (by rfl) ?_ (by assumption) ?_
          rotate_left
          focus (intro w hSw; (try dsimp only at hSw); go_simp; try (with_reducible rfl))
          simp only [Act.put, List.setIfInBounds_toArray, List.set_cons_zero, List.set_cons_succ]
          refine readyOne (i := 11) (by kernel_rfl) rfl (fun K hK => ?_)
          obtain ⟨q0, q1, q2, q3, qb⟩ := id kS
          go_simp
          refine hK.out _ _ ?_ (fun hHeld => ?_)
          · exact ⟨(World.cell?_setCell_far _ _ _ _ hn1).trans ((World.cell?_setCell_far _ _ _ _ hn1).trans ((World.cell?_setCell_far _ _ _ _ hn1).trans q0)), (World.cell?_setCell_far _ _ _ _ hn1).trans ((World.cell?_setCell_far _ _ _ _ hn1).trans ((World.cell?_setCell_far _ _ _ _ hn1).trans q1)), (World.cell?_setCell_far _ _ _ _ hn1).trans ((World.cell?_setCell_far _ _ _ _ hn1).trans ((World.cell?_setCell_far _ _ _ _ hn1).trans q2)), (World.cell?_setCell_far _ _ _ _ hn2).trans ((World.cell?_setCell_far _ _ _ _ hn2).trans ((World.cell?_setCell_far _ _ _ _ hn2).trans q3)), below_set3 qb hD _ _ _⟩
          clear hK K
          refine takeW (i := 12) (v := ?_) rfl (by kernel_rfl) (by kernel_rfl) (by kernel_rfl) (fun _ _ _ h => h) (by rfl) ?_ (by assumption) ?_
          rotate_left
          focus (intro w hSw; (try dsimp only at hSw); go_simp; try (with_reducible rfl))
          simp only [Act.put, List.setIfInBounds_toArray, List.set_cons_zero, List.set_cons_succ]
          refine wpAnyH_done (by kernel_rfl) ?_ _
          have hRF := RF.mk' (c' := (n', p', ls')) r1 kd1 ⟨hn1, by omega, by omega⟩ htu hrw hbs
          have HRF := Lib.hid hRF
          clear k1 k2 k3 k4 k5 htu hrw hbs hRF r1 kd kd1 y0 y1 y2 f0 f1 f2 q0 q1 q2 q3 qb
          go_wp2
          go_meet
          exact ⟨_, _, rfl, HRF.out⟩
      case rest =>
        obtain ⟨D0, u', rfl, hrf⟩ := hcut
        obtain ⟨ua', uc', hu'⟩ := hrf.tu.at.len
        simp only at hu'
        subst hu'
        generalize hL : ls'.length = L' at hrf
        have HL := Lib.hid hL
        clear hL
        clear hS0 hkp hBl hRS HTX HG HFD x0 x1 x2 x3 HRB HRC hCR
        have HNE := Lib.hid hrf.ne
        obtain ⟨y0, y1, y2⟩ := hrf.kd.cells
        obtain ⟨z0, z1, z2⟩ := hrf.st.kc.cells
        obtain ⟨f0, f1, f2⟩ := hrf.st.kc.free
        obtain ⟨wP, hwP⟩ : ∃ x, ((World.setCell wc ⟨w.heap.size + 1, 0, none⟩ (.int .i64 n')).setCell ⟨w.heap.size + 1, 1, none⟩ (tx p')).setCell ⟨w.heap.size + 1, 2, none⟩ (.slice ua' L' uc') = x := ⟨_, rfl⟩
        have hP := hrf.put
        simp only at hP
        rw [hwP] at hP
        obtain ⟨csO, ho1, ho2⟩ := hP.st.row
        obtain ⟨csN, hn1, hn2⟩ := hP.row
        have HP := Lib.hid hP
        have HO1 := Lib.hid ho1
        have HO2 := Lib.hid ho2
        have HN1 := Lib.hid hn1
        have HN2 := Lib.hid hn2
        have HSN := Lib.hid (Src.own hn1)
        have lO := HOL.out.1
        have lN := HOL.out.2
        clear hrf hP ho1 ho2 hn1 hn2
        cases fl with
        | false =>
          go_wp2_with (at_builtin; refine append_src rfl _ _ 29 rfl w.heap.size 25 i0 (.agg #[.int .i64 0, .string ⟨#[]⟩, .slice none 0 0]) 3 48 Tryd.underlying29 hi hz0 hz1 hz2 rfl (by decide) _ out.length csO rfl HO1.out _ new.length csN rfl HN2.out.len HSN.out HN2.out.one (by unfold maxLen; omega) (by omega) HP.out.st.b.size ?_; intro v8 w8 hown8 hg8; have RS8 := Lib.hid (RS.app HP.out.st HO1.out HO2.out HN2.out hown8 hg8); have KD8 := Lib.hid (HP.out.kd.grown hg8 (row_not HO1.out HP.out.kd (by decide))); have g9 := HFL.out _ RS8.out.b; obtain ⟨t0, t1, t2⟩ := RS8.out.kc.cells; clear hown8 hg8)
          go_roundw
          case rel => exact ⟨k + 1, (n', p', ls'), out ++ new, _, by go_num, by omega, HSTP.out, RS8.out⟩
          case measure => simp [intOf]; omega
        | true =>
          have hstp := HSTP.out
          by_cases hnil : ls' = []
          · subst hnil
            obtain rfl : L' = 0 := by have := HL.out; simpa using this.symm
            rw [Ct.flush, if_pos rfl, if_pos rfl] at hstp
            have HQ := Lib.hid hstp
            have HFN := Lib.hid (fun (W : World) => pcflush_nil n' p' ua' uc' W)
            simp only [iv] at HFN
            clear hstp
            go_wp2_with (at_builtin; refine append_src rfl _ _ 29 rfl w.heap.size 25 i0 (.agg #[.int .i64 0, .string ⟨#[]⟩, .slice none 0 0]) 3 48 Tryd.underlying29 hi hz0 hz1 hz2 rfl (by decide) _ out.length csO rfl HO1.out _ new.length csN rfl HN2.out.len HSN.out HN2.out.one (by unfold maxLen; omega) (by omega) HP.out.st.b.size ?_; intro v8 w8 hown8 hg8; have RS8 := Lib.hid (RS.app HP.out.st HO1.out HO2.out HN2.out hown8 hg8); have KD8 := Lib.hid (HP.out.kd.grown hg8 (row_not HO1.out HP.out.kd (by decide))); have g9 := HFL.out _ RS8.out.b; obtain ⟨t0, t1, t2⟩ := RS8.out.kc.cells; clear hown8 hg8)
            refine (HFN.out _).mono ?_
            rintro e w9 ⟨rfl, h9⟩
            have r9 := RS8.out.keep h9
            have d9 := KD8.out.kept h9
            have HB := Lib.hid h9
            obtain ⟨w11, hw11⟩ : ∃ x, ((World.setCell w9 ⟨D0, 0, none⟩ (.int .i64 n')).setCell ⟨D0, 1, none⟩ (tx p')).setCell ⟨D0, 2, none⟩ (.slice none 0 0) = x := ⟨_, rfl⟩
            obtain ⟨w12, hw12⟩ : ∃ x, ((World.setCell w11 ⟨w.heap.size + 1, 0, none⟩ (.int .i64 n')).setCell ⟨w.heap.size + 1, 1, none⟩ (tx p')).setCell ⟨w.heap.size + 1, 2, none⟩ (.slice none 0 0) = x := ⟨_, rfl⟩
            obtain ⟨d11, r11, r12, st12, sz12, keepG⟩ := r9.flushed d9 HNE.out n' p' hw11 hw12
            obtain ⟨y0, y1, y2⟩ := d9.cells
            obtain ⟨f0, f1, f2⟩ := d9.free
            obtain ⟨q0, q1, q2⟩ := d11.cells
            obtain ⟨q3, q4, q5⟩ := r11.kc.cells
            obtain ⟨f3, f4, f5⟩ := r11.kc.free
            obtain ⟨csO9, ho91, ho92⟩ := r12.row
            have HR12 := Lib.hid r12
            have HO91 := Lib.hid ho91
            have HO92 := Lib.hid ho92
            clear ho91 ho92 r12 r11 d9 r9
            go_wp2_with (at_builtin; refine append_src rfl _ _ 29 rfl w.heap.size 25 i0 (.agg #[.int .i64 0, .string ⟨#[]⟩, .slice none 0 0]) 3 48 Tryd.underlying29 hi hz0 hz1 hz2 rfl (by decide) _ (out ++ new).length csO9 rfl HO91.out _ 0 [] rfl rfl (.inl ⟨rfl, rfl⟩) (by simp) (by rw [List.length_append]; unfold maxLen; omega) (by rw [List.length_append]; omega) HR12.out.b.size ?_; intro v14 w14 hown14 hg14; have RS14 := Lib.hid (RS.app HR12.out HO91.out HO92.out (ds := []) (more := []) trivial hown14 hg14); clear hown14 hg14)
            go_roundw
            case rel => exact ⟨k + 1, (n', p', []), out ++ new ++ [], _, by go_num, by omega, HQ.out, RS14.out⟩
            case measure => simp [intOf]; omega
          · rw [Ct.flush, if_pos rfl, if_neg hnil] at hstp
            obtain ⟨m, hm⟩ : ∃ m, Ct.nxt n' = m := ⟨_, rfl⟩
            obtain ⟨d, hd⟩ : ∃ d, Ct.dig (n', p', ls') = d := ⟨_, rfl⟩
            have HFLU := Lib.hid (fun (W : World) (hu : TxAt W (.slice ua' L' uc') ls') hG => pcflush (n', p', ls') (.slice ua' L' uc') W hu (fit_of HFF.out.1 HFF.out.2.1) HFF.out.2.2 hnil hG)
            rw [hd] at hstp HFLU
            simp only [hm, blkV, iv] at hstp HFLU
            have HQ := Lib.hid hstp
            clear hstp hm hd hnil
            go_wp2_with (at_builtin; refine append_src rfl _ _ 29 rfl w.heap.size 25 i0 (.agg #[.int .i64 0, .string ⟨#[]⟩, .slice none 0 0]) 3 48 Tryd.underlying29 hi hz0 hz1 hz2 rfl (by decide) _ out.length csO rfl HO1.out _ new.length csN rfl HN2.out.len HSN.out HN2.out.one (by unfold maxLen; omega) (by omega) HP.out.st.b.size ?_; intro v8 w8 hown8 hg8; have RS8 := Lib.hid (RS.app HP.out.st HO1.out HO2.out HN2.out hown8 hg8); have KD8 := Lib.hid (HP.out.kd.grown hg8 (row_not HO1.out HP.out.kd (by decide))); have g9 := HFL.out _ RS8.out.b; obtain ⟨t0, t1, t2⟩ := RS8.out.kc.cells; clear hown8 hg8)
            refine (HFLU.out _ RS8.out.tu.at (HGW.out.below RS8.out.b)).mono ?_
            rintro e w9 ⟨g, uc, rfl, kg, hut, hty, h9⟩
            have r9 := RS8.out.keep h9
            have d9 := KD8.out.kept h9
            obtain ⟨w11, hw11⟩ : ∃ x, ((World.setCell w9 ⟨D0, 0, none⟩ (.int .i64 m)).setCell ⟨D0, 1, none⟩ (tx d)).setCell ⟨D0, 2, none⟩ (.slice none 0 0) = x := ⟨_, rfl⟩
            obtain ⟨w12, hw12⟩ : ∃ x, ((World.setCell w11 ⟨w.heap.size + 1, 0, none⟩ (.int .i64 m)).setCell ⟨w.heap.size + 1, 1, none⟩ (tx d)).setCell ⟨w.heap.size + 1, 2, none⟩ (.slice none 0 0) = x := ⟨_, rfl⟩
            obtain ⟨d11, r11, r12, st12, sz12, keepG⟩ := r9.flushed d9 HNE.out m d hw11 hw12
            obtain ⟨y0, y1, y2⟩ := d9.cells
            obtain ⟨f0, f1, f2⟩ := d9.free
            obtain ⟨q0, q1, q2⟩ := d11.cells
            obtain ⟨q3, q4, q5⟩ := r11.kc.cells
            obtain ⟨f3, f4, f5⟩ := r11.kc.free
            obtain ⟨csO9, ho91, ho92⟩ := r12.row
            have HR12 := Lib.hid r12
            have HO91 := Lib.hid ho91
            have HO92 := Lib.hid ho92
            have hone : uc.oneCell' = true := one_tx hut
            have hkg := keepG _ _ _ _ kg
            have HKG := Lib.hid (kbox_row hkg)
            have HB1 := Lib.hid (show BlksM 0 w12.heap.size w12 [.int .i64 n', tx p', uc] [(n', p', ls')] from ⟨rfl, rfl, by rw [sz12]; exact (TxM.ofT hut hty).keep st12, trivial⟩)
            have HONE := Lib.hid hone
            clear ho91 ho92 r12 r11 d9 r9 kg hut hty h9 st12 sz12 keepG hone hkg
            go_wp2_with (at_builtin; refine append_src rfl _ _ 29 rfl w.heap.size 25 i0 (.agg #[.int .i64 0, .string ⟨#[]⟩, .slice none 0 0]) 3 48 Tryd.underlying29 hi hz0 hz1 hz2 rfl (by decide) _ (out ++ new).length csO9 rfl HO91.out _ 1 [.int .i64 n', tx p', uc] rfl rfl (.inr ⟨⟨g, 0, none⟩, 1, rfl, HKG.out⟩) (kbox_one uc HONE.out) (by rw [List.length_append]; unfold maxLen; omega) (by rw [List.length_append]; omega) HR12.out.b.size ?_; intro v14 w14 hown14 hg14; have RS14 := Lib.hid (RS.app HR12.out HO91.out HO92.out (more := [(n', p', ls')]) HB1.out hown14 hg14); clear hown14 hg14)
            go_roundw
            case rel => exact ⟨k + 1, (m, d, []), out ++ new ++ [(n', p', ls')], _, by go_num, by omega, HQ.out, RS14.out⟩
            case measure => simp [intOf]; omega
    · obtain rfl : k = l.length := by omega
      rw [HEND.out] at hrun
      subst hrun
      obtain ⟨ua, uc, hu⟩ := hrs.tu.at.len
      subst hu
      obtain ⟨n, p, ls⟩ := c
      obtain ⟨csO, ho1, ho2⟩ := hrs.row
      obtain ⟨ra, rb, re, hkr⟩ := hrs.kr
      have htu := hrs.tu
      have hkc := hrs.kc
      have hbb := hrs.b
      simp only at htu hkc ⊢
      obtain ⟨x0, x1, x2⟩ := hkc.cells
      obtain ⟨r0, r1, r2⟩ := hkr.cells
      obtain ⟨f0, f1, f2⟩ := hkr.free
      have hS0 : (fun w' : World => w'.cell? ⟨w.heap.size + 1, 0, none⟩ = some (.int .i64 n) ∧ w'.cell? ⟨w.heap.size + 1, 1, none⟩ = some (tx p) ∧ w'.cell? ⟨w.heap.size + 1, 2, none⟩ = some (.slice ua ls.length uc)) wr := ⟨x0, x1, x2⟩
      clear hrow
      go_wp2_with fail
      refine wp_region_held_drew (S := (fun w' : World => w'.cell? ⟨w.heap.size + 1, 0, none⟩ = some (.int .i64 n) ∧ w'.cell? ⟨w.heap.size + 1, 1, none⟩ = some (tx p) ∧ w'.cell? ⟨w.heap.size + 1, 2, none⟩ = some (.slice ua ls.length uc))) (by kernel_rfl) ?_ (fun hHeld => ?_)
      · exact hS0
      refine takeW (i := 0) (v := ?_) rfl (by kernel_rfl) (by kernel_rfl) (by kernel_rfl) (fun _ _ _ h => h) (by rfl) ?_ (by assumption) ?_
      rotate_left
      focus (intro w hSw; (try dsimp only at hSw); go_simp; try (with_reducible rfl))
      simp only [Act.put, List.setIfInBounds_toArray, List.set_cons_zero, List.set_cons_succ]
      refine takeW (i := 1) (v := ?_) rfl (by kernel_rfl) (by kernel_rfl) (by kernel_rfl) (fun _ _ _ h => h) (by rfl) ?_ (by assumption) ?_
      rotate_left
      focus (intro w hSw; (try dsimp only at hSw); go_simp; try (with_reducible rfl))
      simp only [Act.put, List.setIfInBounds_toArray, List.set_cons_zero, List.set_cons_succ]
      refine takeW (i := 2) (v := ?_) rfl (by kernel_rfl) (by kernel_rfl) (by kernel_rfl) (fun _ _ _ h => h) (by rfl) ?_ (by assumption) ?_
      rotate_left
      focus (intro w hSw; (try dsimp only at hSw); go_simp; try (with_reducible rfl))
      simp only [Act.put, List.setIfInBounds_toArray, List.set_cons_zero, List.set_cons_succ]
      refine readyOne (i := 3) (by kernel_rfl) rfl (fun K hK => ?_)
      have hn1 : w.heap.size ≠ w.heap.size + 1 := by omega
      go_simp
      refine hK.out _ _ ?_ (fun hHeld => ?_)
      · exact ⟨(World.cell?_setCell_far _ _ _ _ hn1).trans ((World.cell?_setCell_far _ _ _ _ hn1).trans ((World.cell?_setCell_far _ _ _ _ hn1).trans x0)), (World.cell?_setCell_far _ _ _ _ hn1).trans ((World.cell?_setCell_far _ _ _ _ hn1).trans ((World.cell?_setCell_far _ _ _ _ hn1).trans x1)), (World.cell?_setCell_far _ _ _ _ hn1).trans ((World.cell?_setCell_far _ _ _ _ hn1).trans ((World.cell?_setCell_far _ _ _ _ hn1).trans x2))⟩
      clear hK K
      refine wpAnyH_done (by kernel_rfl) ?_ _
      have k1 : KBox (wr.setCell ⟨w.heap.size, 0, none⟩ (.int .i64 n)) (w.heap.size) 24 (.int .i64 n) rb re := heap_setK (k := 0) hkr _
      have k2 : KBox ((wr.setCell ⟨w.heap.size, 0, none⟩ (.int .i64 n)).setCell ⟨w.heap.size, 1, none⟩ (tx p)) (w.heap.size) 24 (.int .i64 n) (tx p) re := heap_setK (k := 1) k1 _
      have st : Stays 0 wr.heap.size wr (((wr.setCell ⟨w.heap.size, 0, none⟩ (.int .i64 n)).setCell ⟨w.heap.size, 1, none⟩ (tx p)).setCell ⟨w.heap.size, 2, none⟩ (.slice ua ls.length uc)) := ((Stays.box hkr (Nat.zero_le _) (by decide) _ _).trans (Stays.box k1 (Nat.zero_le _) (by decide) _ _)).trans (Stays.box k2 (Nat.zero_le _) (by decide) _ _)
      have sz : (((wr.setCell ⟨w.heap.size, 0, none⟩ (.int .i64 n)).setCell ⟨w.heap.size, 1, none⟩ (tx p)).setCell ⟨w.heap.size, 2, none⟩ (.slice ua ls.length uc)).heap.size = wr.heap.size := by simp only [World.setCell, Array.size_modify]
      have hrow2 := own_box (own_box (own_box ho1 hkr (by decide) 0 (.int .i64 n)) k1 (by decide) 1 (tx p)) k2 (by decide) 2 (.slice ua ls.length uc)
      have hbs2 := ho2.keep st
      have hbb2 := below_set3 hbb (Nat.le_refl _) (.int .i64 n) (tx p) (.slice ua ls.length uc)
      have htu2 := (htu.keep st).at
      go_wp2
      refine bodyPost_ret (v := .tuple #[u5, .agg #[.int .i64 n, tx p, .slice ua ls.length uc]]) ?_ rfl ⟨u5, _, csO, rfl, htu2, hrow2, ?_, hbb2.drew⟩
      · obtain ⟨d0, d1, d2⟩ := (hkr.set (.int .i64 n) (tx p) (.slice ua ls.length uc)).cells
        simp [results, Tryd.f23, go_sem, d0, d1, d2]
      · show BlksM 0 (((wr.setCell ⟨w.heap.size, 0, none⟩ (.int .i64 n)).setCell ⟨w.heap.size, 1, none⟩ (tx p)).setCell ⟨w.heap.size, 2, none⟩ (.slice ua ls.length uc)).heap.size _ csO out
        rw [sz]
        exact BlksM.keep (Stays.of ((Below.refl wr.heap.size _).drew)) hbs2
end Go.Proofs.YtldhkgelifmipaaDoor
