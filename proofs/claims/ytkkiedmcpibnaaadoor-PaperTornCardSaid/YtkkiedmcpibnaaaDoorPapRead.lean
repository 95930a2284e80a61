/- Package paper as it landed: Read. -/
import Derived.Test.YtkkiedmcpibnaaaDoorPapIter
import Derived.Test.YtkkiedmcpibnaaaDoorTxs
namespace Go.Proofs.YtkkiedmcpibnaaaDoor
open Go.RowKit Go.Shelf
set_option maxRecDepth 100000
attribute [local go_sem] ByteArray.mk_append_mk Oper.semAt_some
theorem info_txR : (Tryd.prog.info? 9).map (fun i => (i.zero, i.size, i.bytes)) = some (some (.string .empty), 1, 16) := by kernel_rfl
theorem ownsRow_base {W : World} {b b' : Nat} {e : TypeId} {size n : Nat} {v : Value} {xs : List Value} (h : W.ownsRow b e size v n xs) (hb : b' ≤ b) : W.ownsRow b' e size v n xs := by
  refine ⟨h.1, ?_⟩
  rcases h.2 with hn | ⟨g, cap, cur, rfl, hg, r⟩
  · exact .inl hn
  · exact .inr ⟨g, cap, cur, rfl, Nat.le_trans hb hg, r⟩

/-- A slice whose length is within its room. -/
def CapOk (v : Value) : Prop := ∃ a n c, v = .slice a n c ∧ n ≤ c
theorem CapOk.own {W : World} {b n : Nat} {e : TypeId} {size : Nat} {v : Value} {xs : List Value} (h : W.ownsRow b e size v n xs) : CapOk v := by
  rcases h.2 with ⟨rfl, hn⟩ | ⟨g, cap, cur, rfl, _, _, hc, _⟩
  · exact ⟨none, 0, 0, rfl, Nat.le_refl _⟩
  · exact ⟨_, _, _, rfl, hc⟩
/-- How far one has read. -/
def lastOf (pre : List (Nat × List UInt8)) : Nat := (pre.getLast?.map (·.1)).getD 0
theorem lastOf_snoc (pre : List (Nat × List UInt8)) (x : Nat × List UInt8) : lastOf (pre ++ [x]) = x.1 := by simp [lastOf]

theorem lastOf_mk (l : List (List UInt8)) : lastOf (Pp.mk 0 l) = (Pp.frs l).length := by
  rcases List.eq_nil_or_concat l with rfl | ⟨p, r, rfl⟩
  · rfl
  · rw [List.concat_eq_append, Pp.mk_snoc, lastOf_snoc]; simp
theorem grownBy_drewN (W : World) (n : Nat) : W.grownBy (W.drewN n) none := grown_of (grow_draws W n)

set_option maxHeartbeats 4000000 in
theorem pread_cap (s t : List UInt8) (rs : List (List UInt8)) (hs : s.length ≤ 4398046511104) (hR : Pp.Rd s rs t) (w : World) (hg : GW w) :
    Calls Tryd.prog 12 #[tx s] w fun e w' => ∃ v, e = .returned (.tuple #[v, .int .i64 ((Pp.frs rs).length : Int)]) ∧ TxAt w' v rs ∧ CapOk v ∧ Below w.heap.size w w' := by
  refine (callsIn_wide (n := 3)).1 ?_
  obtain ⟨i0, hi, hz0, hz1, hz2⟩ := info_parts info_txR
  have hrl := Pp.rd_len hR
  refine callsIn_of_wp_marks Tryd.func12 rfl trivial ?_ rfl
  simp only [Tryd.ntmps12, List.size_toArray, List.length_cons, List.length_nil, Nat.reduceAdd, Nat.reduceSub, Array.replicate_succ, Array.replicate_zero, List.push_toArray, List.append_toArray, List.nil_append, List.cons_append]
  gi_wp2_with fail
  refine ⟨trivial, (callsIn_wide.2 (frames_any s _)).mono ?_⟩
  rintro e w' ⟨rfl, rfl⟩
  gi_wp2_with fail
  obtain ⟨n₀, hn₀⟩ : ∃ n, w.heap.size = n := ⟨_, rfl⟩
  have b0 := Boxed.new w 28 (.slice none 0 0)
  have b1 := Boxed.new (w.alloc (.cells #[.slice none 0 0] 28)) 3 (.int .i64 0)
  have b2 := Boxed.new ((w.alloc (.cells #[.slice none 0 0] 28)).alloc (.cells #[.int .i64 0] 3)) 9 (tx s)
  rw [World.size_alloc, hn₀] at b1
  rw [World.size_alloc, World.size_alloc, hn₀] at b2
  rw [hn₀] at b0
  have b0' := (b0.alloc (.cells #[.int .i64 0] 3)).alloc (.cells #[tx s] 9)
  have b1' := b1.alloc (.cells #[tx s] 9)
  have hB0 : Below n₀ w (((w.alloc (.cells #[.slice none 0 0] 28)).alloc (.cells #[.int .i64 0] 3)).alloc (.cells #[tx s] 9)) := (((Below.refl n₀ w).alloc (by omega) _).alloc (by simp; omega) _).alloc (by simp; omega) _
  have hsz : (((w.alloc (.cells #[.slice none 0 0] 28)).alloc (.cells #[.int .i64 0] 3)).alloc (.cells #[tx s] 9)).heap.size = n₀ + 3 := by simp; omega
  have hgn : 0 < n₀ := by have := hg.lt; omega
  have hg0 := hg.belowN hgn hB0
  rw [hn₀]
  clear b0 b1
  generalize ((w.alloc (.cells #[.slice none 0 0] 28)).alloc (.cells #[.int .i64 0] 3)).alloc (.cells #[tx s] 9) = W0 at *
  refine wpIn_rangeFunc_ownG (n := 3) rfl (by decide) (gf := 39) (lb := #[.pointer (some ⟨n₀ + 1 + 1, 0, none⟩)]) rfl trivial (enters_of Tryd.func39 (by kernel_rfl) rfl)
    (frames_stops _ (by decide) n₀ (n₀ + 2) s t rs (by omega) hR W0 b2 hg0 hgn (by omega)) KpB.t (KpB.b (by omega) (by omega)) (Below.refl _ _) (fun _ => rfl)
    (fun (pre : List (Nat × List UInt8)) W => ((((∃ v, Boxed W n₀ 28 v ∧ W.ownsRow (n₀ + 3) 9 1 v pre.length (pre.map fun x => tx x.2) ∧ True) ∧ Boxed W (n₀ + 1) 3 (.int .i64 (lastOf pre))) ∧ Boxed W (n₀ + 2) 9 (tx s)) ∧ Below n₀ w W))
    (fun _ _ _ => False)
    (OwnFrom.and (OwnFrom.and (OwnFrom.and (Own.from (holdsRow_own (n₀ + 3) n₀ 28 9 1 (fun (pre : List (Nat × List UInt8)) => pre.length) (fun pre => pre.map fun x => tx x.2) (fun _ _ => True)) _) (Own.from (boxed_own _ _ _) _)) (Own.from (boxed_own _ _ _) _)) (ownFrom_below (by omega) (by omega)))
    (fun c => ownFrom_pure _ _)
    ⟨⟨⟨⟨_, b0', World.ownsRow_nil _ _ _ _, trivial⟩, b1'⟩, b2⟩, hB0⟩
    (fun x => { tmps := #[tx s, undef, .slice none 0 0, .int .i64 0, .pointer (some ⟨n₀, 0, none⟩), .pointer (some ⟨n₀ + 1, 0, none⟩), .int .i64 x.1, tx x.2, tx s, .func (.func 39) #[] #[.pointer (some ⟨n₀ + 1 + 1, 0, none⟩)], .int .i64 x.1, tx x.2, undef, undef, undef, undef, undef, undef, undef], defers := [] }) ?assign ?body ?done ?stop
  case assign =>
    intro l x W K hK
    gi_wp2
    exact hK
  case body =>
    rintro l pre x W ⟨⟨⟨⟨v, hv, hrow, _⟩, he⟩, hb⟩, hB⟩ hlt
    have hcv := hv.cell
    have hfv := hv.frozen
    have hce := he.cell
    have hfe := he.frozen
    have hsW := hB.size
    have hle2 : n₀ + 2 < W.heap.size := hb.lt
    gi_wp2_with (gi_at_builtin; refine wpListIn_append_own _ rfl _ _ 28 rfl (n₀ + 3) 9 i0 (.string .empty) 1 16 Tryd.underlying28 hi hz0 hz1 hz2 rfl (by decide) _ _ _ rfl (hrow.alloc _) ⟨W.heap.size, 0, none⟩ 1 1 [tx x.2] rfl rfl (cell_one_new _ _ _) (by simp [Value.oneCell', tx]) (by unfold maxLen; omega) (by omega) (by simp; omega) ?_; intro v' w1 hown' hgrow _; obtain ⟨g', cap', rfl⟩ := ownsRow_succ hown'; obtain ⟨hv1, hv2, hr2, hk2, hb2⟩ := hv.appended (by decide) (ownsRow_base hrow (b' := n₀) (by omega)) (by omega) (Nat.le_refl _) (ownsRow_base hown' (b' := n₀) (by omega)) hgrow; have hc1 := hv1.cell; have hf1 := hv1.frozen; have he1 : Boxed w1 (n₀ + 1) 3 (.int .i64 (lastOf pre)) := (he.alloc _).kept hgrow (he.not_row (by decide) hrow); have hce1 := he1.cell; have hfe1 := he1.frozen)
    have hb1 : Boxed w1 (n₀ + 2) 9 (tx s) := (hb.alloc _).kept hgrow (fun e => by have := (hrow.lt _ e.symm).1; omega)
    have hg' : n₀ + 3 ≤ g' := (hown'.lt _ rfl).1
    have hb3 : Boxed ((w1.setCell ⟨n₀, 0, none⟩ (.slice (some ⟨g', 0, none⟩) (pre.length + 1) cap')).setCell ⟨n₀ + 1, 0, none⟩ (.int .i64 x.1)) (n₀ + 2) 9 (tx s) := (hb1.other (by omega) _).other (by omega) _
    have hbb := hb2.setCell (p := ⟨n₀ + 1, 0, none⟩) (by simp) (.int .i64 x.1)
    refine ⟨(hk2.trans (KeepsOthers.setCell _ _ _)).from _, ⟨hbb, hb3.trans hb.symm⟩, ⟨⟨⟨_, hv2.other (by omega) _, ?_, trivial⟩, ?_⟩, hb3⟩, hB.trans hbb⟩
    · rw [List.length_append, List.map_append]
      refine (hown'.kept (grownBy_setCell' w1 n₀ _) (.inr ?_)).kept (grownBy_setCell' _ (n₀ + 1) _) (.inr ?_)
      · simp [Value.ownBlock]; omega
      · simp [Value.ownBlock]; omega
    · rw [lastOf_snoc]
      exact (he1.other (by omega) _).set _
  case done =>
    rintro D ys W hD rfl ⟨⟨⟨⟨v, hv, hrow, _⟩, he⟩, hb⟩, hB⟩ hK
    have hcs := hv.cell
    have hce := he.cell
    gi_wp2_with fail
    refine (wpIn_wide (n := 3)).2 ?_
    go_quiet (fail)
    gi_wp2
    have hK' : (W.drewN nq).heap[D]? = some (.deferred (some [])) := hK
    refine ⟨by simp, .inl ⟨_, _, rfl, run_takeDeferred hK', ?_⟩⟩
    refine ⟨.tuple #[v, .int .i64 (lastOf (Pp.mk 0 rs))], by simp [results, Tryd.results12, go_sem], v, ?_, ?_, CapOk.own hrow, ?_⟩
    · rw [lastOf_mk]
    · have hr := ownsRow_putObj (hrow.kept (grownBy_drewN W nq) (Classical.em _)) (.deferred none) hK' rfl
      rw [Pp.mk_len] at hr
      refine TxAt.own (base := n₀ + 3) (n := rs.length) (t := 9) ?_
      have e : (Pp.mk 0 rs).map (fun x => tx x.2) = rs.map tx := by
        conv => rhs; rw [← Pp.mk_snd 0 rs, List.map_map]
        rfl
      rw [← e]
      exact hr
    · rw [hn₀]
      refine hB.trans (((grow_draws W nq).mono (by have := hB.size; omega)).trans (belowK_b (w := W0) (by omega) (W.drewN nq) D _ _ (by omega) hK' rfl rfl))
  case stop =>
    rintro D c pre W _ _ h _
    exact h.elim
theorem pread (s t : List UInt8) (rs : List (List UInt8)) (hs : s.length ≤ 4398046511104) (hR : Pp.Rd s rs t) (w : World) (hg : GW w) :
    Calls Tryd.prog 12 #[tx s] w fun e w' => ∃ v, e = .returned (.tuple #[v, .int .i64 ((Pp.frs rs).length : Int)]) ∧ TxAt w' v rs ∧ Below w.heap.size w w' :=
  (pread_cap s t rs hs hR w hg).mono fun _ _ ⟨v, h1, h2, _, h3⟩ => ⟨v, h1, h2, h3⟩
end Go.Proofs.YtkkiedmcpibnaaaDoor
