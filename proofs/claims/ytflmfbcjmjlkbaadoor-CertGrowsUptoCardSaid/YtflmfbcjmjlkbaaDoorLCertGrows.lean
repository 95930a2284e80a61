/- CertGrows: the walk. -/
import Derived.Test.YtflmfbcjmjlkbaaDoorCrPut
namespace Go.Proofs.YtflmfbcjmjlkbaaDoor
open Go.RowKit Go.ChangeShapes Go.WideShapes Go.ChangeAt
set_option maxRecDepth 100000

/-- What came in, in a block. -/
def GBox (W : World) (B : Nat) (n : Int) (k j : Value) (a r : Int) (b p : Value) (x y : Int) (s : Nat) : Prop := W.heap[B]? = some (.cells #[.int .i64 n, k, j, .int .i64 a, .int .i64 r, b, p, .int .i64 x, .int .i64 y, .int .u64 s] 57 (0, 0))
theorem GBox.cells {W : World} {B : Nat} {n : Int} {k j : Value} {a r : Int} {b p : Value} {x y : Int} {s : Nat} (h : GBox W B n k j a r b p x y s) : W.cell? ⟨B, 0, none⟩ = some (.int .i64 n) ∧ W.cell? ⟨B, 1, none⟩ = some k ∧ W.cell? ⟨B, 2, none⟩ = some j ∧ W.cell? ⟨B, 3, none⟩ = some (.int .i64 a) ∧ W.cell? ⟨B, 4, none⟩ = some (.int .i64 r) ∧ W.cell? ⟨B, 5, none⟩ = some b ∧ W.cell? ⟨B, 6, none⟩ = some p ∧ W.cell? ⟨B, 7, none⟩ = some (.int .i64 x) ∧ W.cell? ⟨B, 8, none⟩ = some (.int .i64 y) ∧ W.cell? ⟨B, 9, none⟩ = some (.int .u64 s) := by
  have e : W.heap[B]? = _ := h
  refine ⟨?_, ?_, ?_, ?_, ?_, ?_, ?_, ?_, ?_, ?_⟩ <;> simp [World.cell?, e]
theorem GBox.new (W : World) (n : Int) (k j : Value) (a r : Int) (b p : Value) (x y : Int) (s : Nat) : GBox (W.alloc (.cells #[.int .i64 n, k, j, .int .i64 a, .int .i64 r, b, p, .int .i64 x, .int .i64 y, .int .u64 s] 57)) W.heap.size n k j a r b p x y s := World.alloc_heap_new W _
theorem GBox.alloc {W : World} {B : Nat} {n : Int} {k j : Value} {a r : Int} {b p : Value} {x y : Int} {s : Nat} (h : GBox W B n k j a r b p x y s) (o : Obj) : GBox (W.alloc o) B n k j a r b p x y s :=
  (((Below.refl W.heap.size W).alloc (Nat.le_refl _) o).block B (Array.getElem?_eq_some_iff.1 h).1).trans h
theorem pSealed_eq {n : Int} {b : List Bk.Sl} {v : Vt.Vtx} {r : Nat} (h : Cr.sealedC n b v = r) (bkv bv pv : Value) (w : World) (hk : FlatAt w bkv 2 (seals b)) (hl : b.length ≤ 140737488351232) (hb : BtsAt w bv v.2.2.1) (hp : TxAt w pv v.2.2.2.1) (mv : Vt.Mod v) (n1 : -9223372036854775808 ≤ n) (n2 : n ≤ 9223372036854775807) (hw : GW w) :
    Calls Tryd.prog 16 #[.int .i64 n, bkv, .agg #[.int .i64 v.1, .int .i64 v.2.1, bv, pv, .int .i64 v.2.2.2.2.1, .int .i64 v.2.2.2.2.2]] w fun e w' => e = .returned (.int .i64 r) ∧ Below w.heap.size w w' := by subst h; exact pSealed n b v bkv bv pv w hk hl hb hp mv n1 n2 hw
theorem puts_small (l b : List Bk.Sl) (k : Nat) (hb : ∀ s ∈ b, s.2.length ≤ 140737488351232) (hl : ∀ s ∈ l, s.2.length ≤ 140737488351232) : ∀ s ∈ Bk.puts b (l.take k), s.2.length ≤ 140737488351232 := by
  intro s hs
  rcases (Bk.puts_mem _ _ _).1 hs with h | ⟨h, _⟩
  · exact hb s h
  · exact hl s (List.mem_of_mem_take h)
theorem rbput_eq {l m : List Bk.Sl} {s : Bk.Sl} (h : Bk.put l s = m) (v : Value) (w : World) (hv : BookAt w v l) (hl : l.length ≤ 5864062014804) (ht : s.2.length ≤ 140737488351232) (hlt : ∀ s ∈ l, s.2.length ≤ 140737488351232) :
    Calls Tryd.prog 27 #[v, .agg #[iv s.1, tx s.2]] w fun e w' => ∃ u, e = .returned u ∧ BookAt w' u m ∧ Below w.heap.size w w' := by subst h; exact rbput_any v l s w hv hl ht hlt
/-- How long a book's value is. -/
theorem BookAt.len {w : World} {v : Value} {l : List Bk.Sl} (h : BookAt w v l) : ∃ a c, v = .slice a l.length c := by
  rcases h with ⟨a, rfl, rfl⟩ | ⟨b, off, cap, rfl, _⟩
  · exact ⟨_, _, rfl⟩
  · exact ⟨_, _, rfl⟩

set_option maxHeartbeats 8000000 in
theorem certGrows_core (n : Int) (b l : List Bk.Sl) (p : Cr.Prf) (bkv lv bv pv : Value) (W : World) (hk : BookAt W bkv b) (hj : BookAt W lv l) (hl : b.length + l.length ≤ 1048576) (hbt : ∀ s ∈ b, s.2.length ≤ 140737488351232) (hlt : ∀ s ∈ l, s.2.length ≤ 140737488351232) (hb : BtsAt W bv p.1.2.2.1) (hp : TxAt W pv p.1.2.2.2.1) (mv : Vt.Mod p.1) (hx : p.2 < 18446744073709551616) (n1 : -9223372036854775808 ≤ n) (n2 : n ≤ 9223372036854775807) (hw : GW W) :
    Calls Tryd.prog 6 #[.agg #[.int .i64 n, bkv, lv, .int .i64 p.1.1, .int .i64 p.1.2.1, bv, pv, .int .i64 p.1.2.2.2.2.1, .int .i64 p.1.2.2.2.2.2, .int .u64 p.2]] W fun e W' => e = .returned (.bool true) ∧ Below W.heap.size W W' := by
  have HW := Lib.hid hw
  have MV := Lib.hid mv
  have HST := Lib.hid (Bk.puts_step l b)
  have HLN := Lib.hid (show ∀ k, (Bk.puts b (l.take k)).length ≤ 1048576 from fun k => by
    have := Bk.puts_len (l.take k) b
    rw [List.length_take] at this
    omega)
  have HSM := Lib.hid (fun k => puts_small l b k hbt hlt)
  have HLT := Lib.hid hlt
  have hsub : ∀ y ∈ b, y ∈ Bk.puts b l := fun y hy => (Bk.puts_mem l b y).mpr (.inl hy)
  obtain ⟨v, x⟩ := p
  simp only [] at hx
  obtain ⟨e, he⟩ : ∃ e, Cr.check n b (v, x) = e := ⟨_, rfl⟩
  obtain ⟨f, hf⟩ : ∃ e, Cr.sealedC n b v = e := ⟨_, rfl⟩
  obtain ⟨g, hg⟩ : ∃ e, Cr.check n (Bk.puts b l) (v, x) = e := ⟨_, rfl⟩
  obtain ⟨h, hh⟩ : ∃ e, Cr.sealedC n (Bk.puts b l) v = e := ⟨_, rfl⟩
  have hge : e = 0 → g = 0 := fun e0 => by rw [← hg]; exact Cr.grows hsub (he.trans e0)
  have hhe : f = 0 → h = 0 := fun e0 => by rw [← hh]; exact Cr.sealed_grows hsub (hf.trans e0)
  have QE := Lib.hid hge
  have QF := Lib.hid hhe
  have HE := Lib.hid he
  have HF := Lib.hid hf
  have HGG := Lib.hid hg
  have HH := Lib.hid hh
  clear he hf hg hh hge hhe hsub hbt hlt
  obtain ⟨a, r, bs, ps, y, z⟩ := v
  simp only [] at hb hp
  have HK := Lib.hid hk
  have HJ := Lib.hid hj
  have HB := Lib.hid hb
  have HP := Lib.hid hp
  obtain ⟨m1, m2, rfl⟩ := hb.len
  obtain ⟨m3, m4, rfl⟩ := hp.len
  obtain ⟨m5, m6, rfl⟩ := hk.len
  obtain ⟨m7, m8, rfl⟩ := hj.len
  have I0 := Lib.hid ((GBox.new W n (.slice m5 b.length m6) (.slice m7 l.length m8) a r (.slice m1 bs.length m2) (.slice m3 ps.length m4) y z x).alloc (.cells #[.int .i64 a, .int .i64 r, .slice m1 bs.length m2, .slice m3 ps.length m4, .int .i64 y, .int .i64 z, .int .u64 x] 31))
  have hv0 := PBox.new (W.alloc (.cells #[.int .i64 n, .slice m5 b.length m6, .slice m7 l.length m8, .int .i64 a, .int .i64 r, .slice m1 bs.length m2, .slice m3 ps.length m4, .int .i64 y, .int .i64 z, .int .u64 x] 57)) a r (.slice m1 bs.length m2) (.slice m3 ps.length m4) y z x
  rw [World.size_alloc] at hv0
  have A0 := Lib.hid hv0
  have HG := Lib.hid (show Below W.heap.size W ((W.alloc (.cells #[.int .i64 n, .slice m5 b.length m6, .slice m7 l.length m8, .int .i64 a, .int .i64 r, .slice m1 bs.length m2, .slice m3 ps.length m4, .int .i64 y, .int .i64 z, .int .u64 x] 57)).alloc (.cells #[.int .i64 a, .int .i64 r, .slice m1 bs.length m2, .slice m3 ps.length m4, .int .i64 y, .int .i64 z, .int .u64 x] 31)) from ((Below.refl _ _).alloc (Nat.le_refl _) _).alloc (by simp) _)
  obtain ⟨k0, k1, k2, k3, k4, k5, k6, k7, k8, k9⟩ := I0.out.cells
  clear hb hp hk hj mv hv0 hw
  go_enter Tryd.func6, Tryd.ntmps6
  go_wp2_with fail
  refine (certShown _ (HW.out.below HG.out)).mono ?_
  rintro e1 w1 ⟨rfl, g1⟩
  have A1 := Lib.hid (A0.out.kept g1)
  have G1 := Lib.hid (HG.out.trans (g1.mono (by simp; omega)))
  obtain ⟨c0, c1, c2, c3, c4, c5, c6⟩ := A1.out.cells
  clear g1 k0 k1 k2 k3 k4 k5 k6 k7 k8 k9
  go_wp2_with fail
  refine (pcheck_eq (p := ((a, r, bs, ps, y, z), x)) HE.out _ _ _ _ (HK.out.below G1.out).flat (by omega) (HB.out.below G1.out) (HP.out.below G1.out) MV.out hx n1 n2 (HW.out.below G1.out)).mono ?_
  rintro e2 w2 ⟨rfl, g2⟩
  have A2 := Lib.hid (A1.out.kept g2)
  have G2 := Lib.hid (grow_trans G1.out g2)
  clear g2 c0 c1 c2 c3 c4 c5 c6
  obtain ⟨c0, c1, c2, c3, c4, c5, c6⟩ := A2.out.cells
  go_wp2_with fail
  refine (pSealed_eq (v := (a, r, bs, ps, y, z)) HF.out _ _ _ _ (HK.out.below G2.out).flat (by omega) (HB.out.below G2.out) (HP.out.below G2.out) MV.out n1 n2 (HW.out.below G2.out)).mono ?_
  rintro e3 w3 ⟨rfl, g3⟩
  have A3 := Lib.hid (A2.out.kept g3)
  have G3 := Lib.hid (grow_trans G2.out g3)
  clear g3 c0 c1 c2 c3 c4 c5 c6
  go_wp2_with fail
  go_loopw [4, 10] (fun bk i wr => ∃ k : Nat, i = .int .i64 k ∧ k ≤ l.length ∧ BookAt wr bk (Bk.puts b (l.take k)) ∧ PBox wr (W.heap.size + 1) a r (.slice m1 bs.length m2) (.slice m3 ps.length m4) y z x ∧ Below W.heap.size W wr) (fun _ i _ => l.length - (intOf i).toNat)
  case atStart => exact ⟨0, rfl, by omega, by simpa [Bk.puts] using HK.out.below G3.out, A3.out, G3.out⟩
  case round =>
    obtain ⟨k, rfl, hk, hy, hA, hbel⟩ := hrel
    have HY := Lib.hid hy
    have AK := Lib.hid hA
    have GK := Lib.hid hbel
    clear hy hbel hA
    by_cases hlt : k < l.length
    · rcases HJ.out with ⟨_, _, e0⟩ | ⟨bb, off, cap, e0, _, _, hc⟩
      · exact absurd hlt (by rw [e0]; simp)
      · simp only [Value.slice.injEq, true_and] at e0
        obtain ⟨rfl, rfl⟩ := e0
        obtain ⟨c1', c2'⟩ := hc k hlt
        have q1 := below_cell GK.out c1'
        have q2 := below_cell GK.out c2'
        have hs1 := HST.out k hlt
        have hst := HLT.out _ (List.getElem_mem hlt)
        obtain ⟨s, es⟩ : ∃ s, l[k] = s := ⟨_, rfl⟩
        rw [es] at q1 q2 hs1 hst
        have HS1 := Lib.hid hs1.symm
        have l1 := HLN.out k
        obtain ⟨a', c', rfl⟩ := HY.out.len
        clear hs1 c1' c2' es hc
        go_wp2_with fail
        refine (rbput_eq HS1.out _ _ HY.out (by omega) hst (HSM.out k)).mono ?_
        rintro e4 w4 ⟨p, rfl, hp, h4⟩
        have HP4 := Lib.hid hp
        have g4 := grow_trans GK.out h4
        have AL := Lib.hid (AK.out.kept h4)
        clear hp q1 q2 h4
        go_wp2_with fail
        go_roundw
        case rel => exact ⟨k + 1, by go_num, hlt, HP4.out, AL.out, g4⟩
        case measure => simp [intOf]; omega
    · obtain rfl : k = l.length := by omega
      have l1 := HLN.out l.length
      rw [List.take_length] at HY l1
      obtain ⟨c0, c1, c2, c3, c4, c5, c6⟩ := AK.out.cells
      obtain ⟨a', c', rfl⟩ := HY.out.len
      go_wp2_with fail
      refine (pcheck_eq (p := ((a, r, bs, ps, y, z), x)) HGG.out _ _ _ _ HY.out.flat (by omega) (HB.out.below GK.out) (HP.out.below GK.out) MV.out hx n1 n2 (HW.out.below GK.out)).mono ?_
      rintro e5 w5 ⟨rfl, g5⟩
      have A5 := Lib.hid (AK.out.kept g5)
      have G5 := Lib.hid (grow_trans GK.out g5)
      have HY5 := Lib.hid (HY.out.below g5)
      clear g5 c0 c1 c2 c3 c4 c5 c6
      obtain ⟨c0, c1, c2, c3, c4, c5, c6⟩ := A5.out.cells
      go_wp2_with fail
      refine (pSealed_eq (v := (a, r, bs, ps, y, z)) HH.out _ _ _ _ HY5.out.flat (by omega) (HB.out.below G5.out) (HP.out.below G5.out) MV.out n1 n2 (HW.out.below G5.out)).mono ?_
      rintro e6 w6 ⟨rfl, g6⟩
      have G6 := Lib.hid (grow_trans G5.out g6)
      clear g6 c0 c1 c2 c3 c4 c5 c6
      have te : ((e : Int) != 0) = true ∨ (((e : Int) != 0) = false ∧ g = 0) := by
        by_cases e0 : e = 0
        · exact .inr ⟨by subst e0; rfl, QE.out e0⟩
        · exact .inl (by rw [bne_iff_ne]; omega)
      have tf : ((f : Int) != 0) = true ∨ (((f : Int) != 0) = false ∧ h = 0) := by
        by_cases e0 : f = 0
        · exact .inr ⟨by subst e0; rfl, QF.out e0⟩
        · exact .inl (by rw [bne_iff_ne]; omega)
      rcases te with t1 | ⟨t1, rfl⟩ <;> rcases tf with t2 | ⟨t2, rfl⟩
      all_goals
        go_wp2
        go_ret
        exact ⟨rfl, G6.out⟩

theorem certGrows_walk {H : Type} (enc : TypeId × Value → H) (W : World) (base : Nat) (v0 : Value) (d0 : DataW H) (p0 : List MemPlace)
    (h0 : DataW.Trod enc Tryd.prog W 0 (fun _ => true) true 57 v0 d0 p0) (o0 : Value.okWide Tryd.prog W .any base 57 v0)
    (hsz : (DataW.weightsEach Tryd.prog [57] [d0]).all (· ≤ reachBytes) = true) (hk : Rows.uptoSmall H [d0] = true) (hg : GW W) :
    Calls Tryd.prog 6 #[v0] W fun e W' => e = .returned (.bool true) ∧ Below W.heap.size W W' := by
  obtain ⟨cs, rfl, hs⟩ := okWide_struct Tryd.underlying57 o0
  obtain ⟨fuel, hn⟩ := h0
  have hC : Tryd.prog.cellsOf 57 = 10 := by kernel_rfl
  have k1 : Tryd.prog.cellsOf 3 = 1 := by kernel_rfl
  have k2 : Tryd.prog.cellsOf 22 = 1 := by kernel_rfl
  have k3 : Tryd.prog.cellsOf 31 = 7 := by kernel_rfl
  obtain ⟨xs, m, _, hx, _, hlen, hf⟩ := DataW.trod_struct Tryd.underlying57 hn
  have hl : cs.toList.length = 10 := by simpa using hs.trans hC
  simp only [Value.cells] at hf
  obtain ⟨cl⟩ := cs
  simp only at hl hf
  simp only [Prod.mk.injEq] at hx
  obtain ⟨rfl, _⟩ := hx
  have hw := sized_at hsz (j := 0) rfl rfl
  match cl, hl, xs, hlen with
  | [e0, e1, e2, e3, e4, e5, e6, e7, e8, e9], _, [y0, y1, y2, y3], _ =>
    have h0 := hf 0 _ rfl
    have h1 := hf 1 _ rfl
    have h2 := hf 2 _ rfl
    have h3 := hf 3 _ rfl
    simp only [List.map_cons, List.map_nil, DataW.weights, Tryd.underlying57] at hw
    obtain ⟨n, n1, n2, rfl, _⟩ := trod_i64 (v := e0) (y := y0) Tryd.underlying3 (by simpa [k1] using h0)
    obtain ⟨b, hbk, lb, hbt⟩ := trod_sealsC (W := W) (v := e1) (y := y1) (by simpa [k2] using h1) (sized_at hw (j := 1) rfl rfl)
    obtain ⟨l, hlk, ll, hlt⟩ := trod_sealsC (W := W) (v := e2) (y := y2) (by simpa [k2] using h2) (sized_at hw (j := 2) rfl rfl)
    obtain ⟨p, bv, pv, he, hbv, hpv, mv, hx⟩ := elem_prf (W := W) m [e3, e4, e5, e6, e7, e8, e9] y3 rfl (by simpa [k3] using h3) (sized_at hw (j := 3) rfl rfl)
    simp only [List.cons.injEq, and_true] at he
    obtain ⟨rfl, rfl, rfl, rfl, rfl, rfl, rfl⟩ := he
    have hs : Rows.uptoBulkAll [DataW.agg [y0.1, y1.1, y2.1, y3.1]] ≤ 1048576 := of_decide_eq_true hk
    simp only [Rows.uptoBulkAll, Rows.uptoBulk] at hs
    exact certGrows_core n b l p _ _ _ _ W hbk hlk (by omega) hbt hlt hbv hpv mv hx n1 n2 hg
end Go.Proofs.YtflmfbcjmjlkbaaDoor
