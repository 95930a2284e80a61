/- The contracts of the document's answer of layer 6: Put, where a seal comes. (Written by gen-rbput.py.) -/
import Derived.Test.YtpodccgaigkalaaBookPutR
import Derived.Test.YtpodccgaigkalaaBkPut3
namespace Go.Proofs.Ytpodccgaigkalaa
open Go.RowKit
theorem seals_nil : seals [] = [] := rfl
theorem new_sl (W : World) (x : Int) (t : List UInt8) : ∀ j u, [Value.int .i64 x, tx t][j]? = some u → (W.alloc (.cells #[.int .i64 x, tx t] 24)).cell? ((⟨W.heap.size, 0, none⟩ : Addr).add j) = some u := by
  intro j u h
  have ha : (⟨W.heap.size, 0, none⟩ : Addr).add j = ⟨W.heap.size, j, none⟩ := by unfold Addr.add; split <;> simp_all
  rw [ha, World.cell?_alloc_at _ _ _ _ rfl]
  simpa using h
theorem new_sl2 (W : World) (o : Obj) (x : Int) (t : List UInt8) : ∀ j u, [Value.int .i64 x, tx t][j]? = some u → ((W.alloc o).alloc (.cells #[.int .i64 x, tx t] 24)).cell? ((⟨W.heap.size + 1, 0, none⟩ : Addr).add j) = some u := by
  have h := new_sl (W.alloc o) x t
  have e : (W.alloc o).heap.size = W.heap.size + 1 := by simp
  rw [e] at h
  exact h
theorem src_rows {w : World} {b off K : Nat} {l : List Bk.Sl} (hK : K ≤ l.length) (hc : ∀ k (h : k < l.length), w.cell? ⟨b, off + k * 2, none⟩ = some (iv l[k].1) ∧ w.cell? ⟨b, off + k * 2 + 1, none⟩ = some (tx l[k].2)) :
    ∀ k (h : k < (l.drop K).length), w.cell? ⟨b, off + K * 2 + k * 2, none⟩ = some (iv (l.drop K)[k].1) ∧ w.cell? ⟨b, off + K * 2 + k * 2 + 1, none⟩ = some (tx (l.drop K)[k].2) := by
  intro k hk
  rw [List.length_drop] at hk
  obtain ⟨c1, c2⟩ := hc (K + k) (by omega)
  have e : off + K * 2 + k * 2 = off + (K + k) * 2 := by omega
  rw [List.getElem_drop, e]
  exact ⟨c1, c2⟩

set_option maxHeartbeats 4000000 in
set_option maxRecDepth 100000 in
theorem rbput_some (b off cap : Nat) (l : List Bk.Sl) (x : Int) (t : List UInt8) (w : World) (hle : l.length ≤ cap) (hcap : cap ≤ 9223372036854775807)
    (hc : ∀ k (h : k < l.length), w.cell? ⟨b, off + k * 2, none⟩ = some (iv l[k].1) ∧ w.cell? ⟨b, off + k * 2 + 1, none⟩ = some (tx l[k].2))
    (hl : l.length ≤ 5864062014804) (ht : t.length ≤ 140737488351232) (hlt : ∀ s ∈ l, s.2.length ≤ 140737488351232) (h : Bk.inR (x, t) = true) (hh : Bk.has l (x, t) = false) :
    Calls Try.prog 13 #[.slice (some ⟨b, off, none⟩) l.length cap, sv (x, t)] w fun e w' => ∃ u, e = .returned u ∧ FlatAt w' u 2 (seals (Bk.ins (x, t) l)) ∧ Below w.heap.size w w' := by
  have hv : BookAt w (.slice (some ⟨b, off, none⟩) l.length cap) l := .inr ⟨b, off, cap, rfl, hle, hcap, hc⟩
  have HLT := Lib.hid hlt
  have HC0 := Lib.hid hc
  clear hc hlt
  obtain ⟨i0, hi, hz0, hz1, hz2⟩ := info_parts info_sl
  obtain ⟨C, hC⟩ : ∃ C, w.heap.size = C := ⟨_, rfl⟩
  obtain ⟨w0, hw0⟩ : ∃ w0, w.alloc (.cells #[.int .i64 x, tx t] 24) = w0 := ⟨_, rfl⟩
  have g0 : Below w.heap.size w w0 := by rw [← hw0]; exact (Below.refl _ _).alloc (Nat.le_refl _) _
  have GR := Lib.hid g0
  have HV := Lib.hid (hv.below g0)
  have B0 := Lib.hid (show w0.cell? ⟨C, 0, none⟩ = some (.int .i64 x) by rw [← hw0, ← hC]; simp)
  have B1 := Lib.hid (show w0.cell? ⟨C, 1, none⟩ = some (tx t) by rw [← hw0, ← hC]; simp)
  have HH := Lib.hid hh
  have hr1 : decide (x < 1) = false := by simp only [Bk.inR, decide_eq_true_iff] at h; rw [decide_eq_false_iff_not]; omega
  have hr2 : decide (64 < x) = false := by simp only [Bk.inR, decide_eq_true_iff] at h; rw [decide_eq_false_iff_not]; omega
  clear g0 hv hh h
  simp only [sv, iv]
  have z0 := B0.out
  have z1 := B1.out
  go_enter Try.func13, Try.ntmps13
  go_wp2_with fail
  clear hw0 z0 z1
  refine (rbhas_eq (s := (x, t)) HH.out _ HV.out.flat (by omega)).mono ?_
  rintro e w1 ⟨rfl, h1⟩
  have r0 := below_cell h1 B0.out
  have HB1 := Lib.hid h1
  clear h1
  go_wp2_with fail
  clear hr1 hr2 r0
  have HC := Lib.hid (fun k (hk : k < l.length) => (⟨below_cell GR.out (HC0.out k hk).1, below_cell GR.out (HC0.out k hk).2⟩ : w0.cell? ⟨b, off + k * 2, none⟩ = some (iv l[k].1) ∧ w0.cell? ⟨b, off + k * 2 + 1, none⟩ = some (tx l[k].2)))
  have HINS0 := Lib.hid (ins_idx (x, t) l)
  clear HC0 HV
  go_loopw [6] (fun i wr => ∃ k : Nat, i = .int .i64 k ∧ k ≤ l.length ∧ (∀ j (hj : j < l.length), j < k → Bk.ahead (x, t) l[j] = false) ∧ Below w0.heap.size w0 wr) (fun i _ => l.length - (intOf i).toNat)
  case atStart => exact ⟨0, rfl, by omega, fun _ _ h => absurd h (by omega), HB1.out⟩
  case round =>
    obtain ⟨k, rfl, hk, hn, hb⟩ := hrel
    have HN := Lib.hid hn
    have HB := Lib.hid hb
    clear hn hb HB1
    by_cases hlk : k < l.length
    · obtain ⟨c1', c2'⟩ := HC.out k hlk
      have c1 := below_cell HB.out c1'
      have c2 := below_cell HB.out c2'
      have b1 := below_cell HB.out B0.out
      have b2 := below_cell HB.out B1.out
      clear c1' c2'
      have HX := Lib.hid fun (hr : Bk.ahead (x, t) l[k] = false) => (show ∀ j (hj : j < l.length), j < k + 1 → Bk.ahead (x, t) l[j] = false from fun j hj hjk => by
        by_cases e : j = k
        · subst e; exact hr
        · exact HN.out j hj (by omega))
      have HY := Lib.hid fun (hr : Bk.ahead (x, t) l[k] = true) => (show idxN (x, t) l = k from idxN_at _ l k hlk hr (fun j hj => HN.out j (by omega) hj))
      have hly := HLT.out l[k] (List.getElem_mem hlk)
      obtain ⟨y, hy⟩ : ∃ y, l[k] = y := ⟨_, rfl⟩
      simp only [hy] at c1 c2 HX HY hly
      clear hy
      have hah := fun W => rahead_any (x, t) y ht hly W
      obtain ⟨x', t'⟩ := y
      simp only [iv] at c1 c2 hah
      have hS : (fun w' : World => w'.cell? ⟨b, off + k * 2, none⟩ = some (.int .i64 x') ∧ w'.cell? ⟨b, off + k * 2 + 1, none⟩ = some (tx t') ∧ w'.cell? ⟨C, 0, none⟩ = some (.int .i64 x) ∧ w'.cell? ⟨C, 1, none⟩ = some (tx t) ∧ Below w0.heap.size w0 w') wr := ⟨c1, c2, b1, b2, HB.out⟩
      have hkp := Lib.hid (show ∀ A1 A2 : World, (fun w' : World => w'.cell? ⟨b, off + k * 2, none⟩ = some (.int .i64 x') ∧ w'.cell? ⟨b, off + k * 2 + 1, none⟩ = some (tx t') ∧ w'.cell? ⟨C, 0, none⟩ = some (.int .i64 x) ∧ w'.cell? ⟨C, 1, none⟩ = some (tx t) ∧ Below w0.heap.size w0 w') A1 → Below A1.heap.size A1 A2 → (fun w' : World => w'.cell? ⟨b, off + k * 2, none⟩ = some (.int .i64 x') ∧ w'.cell? ⟨b, off + k * 2 + 1, none⟩ = some (tx t') ∧ w'.cell? ⟨C, 0, none⟩ = some (.int .i64 x) ∧ w'.cell? ⟨C, 1, none⟩ = some (tx t) ∧ Below w0.heap.size w0 w') A2 from fun A1 A2 ⟨k0, k1, k2, k3, kb⟩ h => ⟨below_cell h k0, below_cell h k1, below_cell h k2, below_cell h k3, grow_trans kb h⟩)
      have j1 : (k : Int) < (l.length : Int) := by omega
      have j2 : (0 : Int) ≤ (k : Int) := by omega
      have j3 : (k : Int).toNat = k := by omega
      cases hq : Bk.ahead (x, t) (x', t') with
      | false =>
        have HN2 := Lib.hid (HX.out hq)
        rw [hq] at hah
        clear hq HX HY b1 b2
        go_upto_region 5 with fail
        go_region_held3 (fun w' : World => w'.cell? ⟨b, off + k * 2, none⟩ = some (.int .i64 x') ∧ w'.cell? ⟨b, off + k * 2 + 1, none⟩ = some (tx t') ∧ w'.cell? ⟨C, 0, none⟩ = some (.int .i64 x) ∧ w'.cell? ⟨C, 1, none⟩ = some (tx t) ∧ Below w0.heap.size w0 w')
          (first | assumption | exact hkp.out _ _ hS (Below.drew (Below.refl _ _)) | exact hkp.out _ _ (by assumption) ((Below.refl _ _).alloc (Nat.le_refl _) _))
          (first
            | (go_at_call 28; refine (keepB (fun w' : World => w'.cell? ⟨b, off + k * 2, none⟩ = some (.int .i64 x') ∧ w'.cell? ⟨b, off + k * 2 + 1, none⟩ = some (tx t') ∧ w'.cell? ⟨C, 0, none⟩ = some (.int .i64 x) ∧ w'.cell? ⟨C, 1, none⟩ = some (tx t) ∧ Below w0.heap.size w0 w') hkp.out (hah _) (by assumption)).mono ?_; rintro e w9 ⟨rfl, kS⟩))
        all_goals go_wp2
        all_goals go_roundw
        all_goals first
          | exact ⟨k + 1, by go_num, hlk, HN2.out, (show (fun w' : World => w'.cell? ⟨b, off + k * 2, none⟩ = some (.int .i64 x') ∧ w'.cell? ⟨b, off + k * 2 + 1, none⟩ = some (tx t') ∧ w'.cell? ⟨C, 0, none⟩ = some (.int .i64 x) ∧ w'.cell? ⟨C, 1, none⟩ = some (tx t) ∧ Below w0.heap.size w0 w') _ by assumption).2.2.2.2⟩
          | (simp [intOf]; omega)
      | true =>
        have hidx := HY.out hq
        have HINS := Lib.hid (show Bk.ins (x, t) l = l.take k ++ (x, t) :: l.drop k by rw [HINS0.out, hidx])
        rw [hq] at hah
        clear hq HX HY b1 b2 hidx HINS0 HN
        go_upto_region 5 with fail
        go_region_held3 (fun w' : World => w'.cell? ⟨b, off + k * 2, none⟩ = some (.int .i64 x') ∧ w'.cell? ⟨b, off + k * 2 + 1, none⟩ = some (tx t') ∧ w'.cell? ⟨C, 0, none⟩ = some (.int .i64 x) ∧ w'.cell? ⟨C, 1, none⟩ = some (tx t) ∧ Below w0.heap.size w0 w')
          (first | assumption | exact hkp.out _ _ hS (Below.drew (Below.refl _ _)) | exact hkp.out _ _ (by assumption) ((Below.refl _ _).alloc (Nat.le_refl _) _))
          (first
            | (go_at_call 28; refine (keepB (fun w' : World => w'.cell? ⟨b, off + k * 2, none⟩ = some (.int .i64 x') ∧ w'.cell? ⟨b, off + k * 2 + 1, none⟩ = some (tx t') ∧ w'.cell? ⟨C, 0, none⟩ = some (.int .i64 x) ∧ w'.cell? ⟨C, 1, none⟩ = some (tx t) ∧ Below w0.heap.size w0 w') hkp.out (hah _) (by assumption)).mono ?_; rintro e w9 ⟨rfl, kS⟩))
        have HB4 := Lib.hid (show (fun w' : World => w'.cell? ⟨b, off + k * 2, none⟩ = some (.int .i64 x') ∧ w'.cell? ⟨b, off + k * 2 + 1, none⟩ = some (tx t') ∧ w'.cell? ⟨C, 0, none⟩ = some (.int .i64 x) ∧ w'.cell? ⟨C, 1, none⟩ = some (tx t) ∧ Below w0.heap.size w0 w') _ by assumption).2.2.2.2
        clear hS hkp c1 c2
        have hsz4 := HB4.out.size
        have htk4 : ∀ j (h : j < (l.take k).length), w9.cell? ⟨b, off + j * 2, none⟩ = some (iv (l.take k)[j].1) ∧ w9.cell? ⟨b, off + j * 2 + 1, none⟩ = some (tx (l.take k)[j].2) := by
          intro j hj
          rw [List.length_take] at hj
          rw [List.getElem_take]
          exact ⟨below_cell HB4.out (HC.out j (by omega)).1, below_cell HB4.out (HC.out j (by omega)).2⟩
        have hK : k ≤ l.length := by omega
        have hK1 : (k : Int) ≤ (l.length : Int) := by omega
        have hK2 : (0 : Int) ≤ (k : Int) := by omega
        have hK3 : (k : Int) ≤ (cap : Int) := by omega
        have hK4 : (k : Int) < (cap : Int) := by omega
        have HLIT := Lib.hid (World.ownsRow_lit (base := w0.heap.size) (e := 24) (size := 2) w9 #[] 0 hsz4 (by decide) rfl)
        have hgl : Below w9.heap.size w9 (w9.alloc (.cells #[] 24)) := (Below.refl _ _).alloc (Nat.le_refl _) _
        have hszl : w0.heap.size ≤ (w9.alloc (.cells #[] 24)).heap.size := by simp; omega
        have HBL := Lib.hid (HB4.out.alloc hsz4 (.cells #[] 24))
        have HS1 := Lib.hid (fun j u hj => below_cell hgl (clone_row htk4 j u hj))
        have hl1 := Lib.hid (show (seals (l.take k)).length = k * 2 by rw [seals_len, List.length_take]; omega)
        clear hgl htk4
        go_wp2_with (first
          | (at_builtin; refine wpList_append_own _ rfl _ _ 22 rfl w0.heap.size 24 i0 (.agg #[.int .i64 0, .string ⟨#[]⟩]) 2 24 Try.underlying22 hi hz0 hz1 hz2 rfl (by decide) _ 0 [] rfl HLIT.out ⟨b, off, none⟩ k cap (seals (l.take k)) rfl hl1.out HS1.out (seal_one _) (by unfold maxLen; omega) (by omega) (by exact hszl) ?_; intro v5 w5 hown5 hg _; have hb5 := HBL.out.grown hg (by exact hszl) (fun k hk => (HLIT.out.lt k hk).1); have HO5 := Lib.hid hown5; have HB5 := Lib.hid hb5; have hsz5 := hb5.size; clear hown5 hg hb5; have r0 := below_cell HB5.out B0.out; have r1 := below_cell HB5.out B1.out; have HNW := Lib.hid (new_sl w5 x t))
          | (at_builtin; refine wpList_append_own _ rfl _ _ 22 rfl w0.heap.size 24 i0 (.agg #[.int .i64 0, .string ⟨#[]⟩]) 2 24 Try.underlying22 hi hz0 hz1 hz2 rfl (by decide) _ (0 + k) ([] ++ seals (l.take k)) rfl (HO5.out.alloc _) ⟨w5.heap.size, 0, none⟩ 1 1 [.int .i64 x, tx t] rfl rfl HNW.out (by intro u hu; simp at hu; rcases hu with rfl | rfl <;> rfl) (by unfold maxLen; omega) (by omega) (by simp; omega) ?_; intro v6 w6 hown6 hg _; have hb6 := (HB5.out.alloc hsz5 _).grown hg (by simp; omega) (fun k hk => (HO5.out.lt k hk).1); have HO6 := Lib.hid hown6; have HB6 := Lib.hid hb6; have hsz6 := hb6.size; clear hown6 hg hb6; have HS3 := Lib.hid (clone_row (src_rows hK (fun k hk => ⟨below_cell HB6.out (HC.out k hk).1, below_cell HB6.out (HC.out k hk).2⟩))); have hl3 := Lib.hid (show (seals (l.drop k)).length = (l.length - k) * 2 by rw [seals_len, List.length_drop]))
          | (at_builtin; refine wpList_append_own _ rfl _ _ 22 rfl w0.heap.size 24 i0 (.agg #[.int .i64 0, .string ⟨#[]⟩]) 2 24 Try.underlying22 hi hz0 hz1 hz2 rfl (by decide) _ ((0 + k) + 1) (([] ++ seals (l.take k)) ++ [.int .i64 x, tx t]) rfl HO6.out ⟨b, off + k * 2, none⟩ (l.length - k) (cap - k) (seals (l.drop k)) rfl hl3.out HS3.out (seal_one _) (by unfold maxLen; omega) (by omega) (by exact hsz6) ?_; intro v7 w7 hown7 hg _; have hb7 := HB6.out.grown hg (by exact hsz6) (fun k hk => (HO6.out.lt k hk).1); have HO7 := Lib.hid hown7; have HB7 := Lib.hid hb7; have hsz7 := hb7.size; clear hown7 hg hb7))
        go_wp2
        go_ret
        refine ⟨_, rfl, ?_, by first | exact GR.out.trans (HB7.out.mono GR.out.size) | (rw [← hC]; exact GR.out.trans (HB7.out.mono GR.out.size))⟩
        have h := FlatAt.own HO7.out
        rw [HINS.out]
        simpa [seals_app, seals_cons, seals_nil, iv] using h
    · obtain rfl : k = l.length := by omega
      have hidx := idxN_none (x, t) l (fun j hj => HN.out j hj hj)
      have HINS := Lib.hid (show Bk.ins (x, t) l = l.take l.length ++ (x, t) :: l.drop l.length by rw [HINS0.out, hidx])
      clear hidx HINS0 HN hlk
      go_upto_region 5 with fail
      go_quiet (fail)
      generalize hw9 : World.drewN wr _ = w9
      have HB4 := Lib.hid (show Below w0.heap.size w0 w9 by rw [← hw9]; exact grow_trans HB.out (grow_draws _ _))
      clear hw9
      have hsz4 := HB4.out.size
      have htk4 : ∀ j (h : j < (l.take l.length).length), w9.cell? ⟨b, off + j * 2, none⟩ = some (iv (l.take l.length)[j].1) ∧ w9.cell? ⟨b, off + j * 2 + 1, none⟩ = some (tx (l.take l.length)[j].2) := by
        intro j hj
        rw [List.length_take] at hj
        rw [List.getElem_take]
        exact ⟨below_cell HB4.out (HC.out j (by omega)).1, below_cell HB4.out (HC.out j (by omega)).2⟩
      have hK : l.length ≤ l.length := by omega
      have hK1 : (l.length : Int) ≤ (l.length : Int) := by omega
      have hK2 : (0 : Int) ≤ (l.length : Int) := by omega
      have hK3 : (l.length : Int) ≤ (cap : Int) := by omega
      by_cases hcc : l.length = cap
      · have hKl : l.length = l.length := by omega
        have HIN2 := Lib.hid (show Bk.ins (x, t) l = l.take l.length ++ [(x, t)] by rw [HINS.out, hKl, List.take_length, List.drop_length])
        subst hcc
        clear hKl HINS
        have HLIT := Lib.hid (World.ownsRow_lit (base := w0.heap.size) (e := 24) (size := 2) w9 #[] 0 hsz4 (by decide) rfl)
        have hgl : Below w9.heap.size w9 (w9.alloc (.cells #[] 24)) := (Below.refl _ _).alloc (Nat.le_refl _) _
        have hszl : w0.heap.size ≤ (w9.alloc (.cells #[] 24)).heap.size := by simp; omega
        have HBL := Lib.hid (HB4.out.alloc hsz4 (.cells #[] 24))
        have HS1 := Lib.hid (fun j u hj => below_cell hgl (clone_row htk4 j u hj))
        have hl1 := Lib.hid (show (seals (l.take l.length)).length = l.length * 2 by rw [seals_len, List.length_take]; omega)
        clear hgl htk4
        go_wp2_with (first
          | (at_builtin; refine wpList_append_own _ rfl _ _ 22 rfl w0.heap.size 24 i0 (.agg #[.int .i64 0, .string ⟨#[]⟩]) 2 24 Try.underlying22 hi hz0 hz1 hz2 rfl (by decide) _ 0 [] rfl HLIT.out ⟨b, off, none⟩ l.length l.length (seals (l.take l.length)) rfl hl1.out HS1.out (seal_one _) (by unfold maxLen; omega) (by omega) (by exact hszl) ?_; intro v5 w5 hown5 hg _; have hb5 := HBL.out.grown hg (by exact hszl) (fun k hk => (HLIT.out.lt k hk).1); have HO5 := Lib.hid hown5; have HB5 := Lib.hid hb5; have hsz5 := hb5.size; clear hown5 hg hb5; have r0 := below_cell HB5.out B0.out; have r1 := below_cell HB5.out B1.out; have HNW := Lib.hid (new_sl w5 x t))
          | (at_builtin; refine wpList_append_own _ rfl _ _ 22 rfl w0.heap.size 24 i0 (.agg #[.int .i64 0, .string ⟨#[]⟩]) 2 24 Try.underlying22 hi hz0 hz1 hz2 rfl (by decide) _ (0 + l.length) ([] ++ seals (l.take l.length)) rfl (HO5.out.alloc _) ⟨w5.heap.size, 0, none⟩ 1 1 [.int .i64 x, tx t] rfl rfl HNW.out (by intro u hu; simp at hu; rcases hu with rfl | rfl <;> rfl) (by unfold maxLen; omega) (by omega) (by simp; omega) ?_; intro v6 w6 hown6 hg _; have hb6 := (HB5.out.alloc hsz5 _).grown hg (by simp; omega) (fun k hk => (HO5.out.lt k hk).1); have HO6 := Lib.hid hown6; have HB6 := Lib.hid hb6; have hsz6 := hb6.size; clear hown6 hg hb6)
          | (at_builtin; refine wpList_append_own _ rfl _ _ 22 rfl w0.heap.size 24 i0 (.agg #[.int .i64 0, .string ⟨#[]⟩]) 2 24 Try.underlying22 hi hz0 hz1 hz2 rfl (by decide) _ ((0 + l.length) + 1) (([] ++ seals (l.take l.length)) ++ [.int .i64 x, tx t]) rfl HO6.out ⟨b, off, none⟩ 0 0 [] rfl rfl (fun j u h => absurd h (by simp)) (fun u h => absurd h (by simp)) (by unfold maxLen; omega) (by omega) (by exact hsz6) ?_; intro v7 w7 hown7 hg _; have hb7 := HB6.out.grown hg (by exact hsz6) (fun k hk => (HO6.out.lt k hk).1); have HO7 := Lib.hid hown7; have HB7 := Lib.hid hb7; have hsz7 := hb7.size; clear hown7 hg hb7))
        go_wp2
        go_ret
        refine ⟨_, rfl, ?_, by first | exact GR.out.trans (HB7.out.mono GR.out.size) | (rw [← hC]; exact GR.out.trans (HB7.out.mono GR.out.size))⟩
        have h := FlatAt.own HO7.out
        rw [HIN2.out]
        simpa [seals_app, seals_cons, seals_nil, iv] using h
      · have hK4 : (l.length : Int) < (cap : Int) := by omega
        have hd0 : l.drop l.length = [] := List.drop_length
        have HINS := Lib.hid (show Bk.ins (x, t) l = l.take l.length ++ (x, t) :: [] by rw [HINS.out, hd0])
        clear hd0
        have HLIT := Lib.hid (World.ownsRow_lit (base := w0.heap.size) (e := 24) (size := 2) w9 #[] 0 hsz4 (by decide) rfl)
        have hgl : Below w9.heap.size w9 (w9.alloc (.cells #[] 24)) := (Below.refl _ _).alloc (Nat.le_refl _) _
        have hszl : w0.heap.size ≤ (w9.alloc (.cells #[] 24)).heap.size := by simp; omega
        have HBL := Lib.hid (HB4.out.alloc hsz4 (.cells #[] 24))
        have HS1 := Lib.hid (fun j u hj => below_cell hgl (clone_row htk4 j u hj))
        have hl1 := Lib.hid (show (seals (l.take l.length)).length = l.length * 2 by rw [seals_len, List.length_take]; omega)
        clear hgl htk4
        go_wp2_with (first
          | (at_builtin; refine wpList_append_own _ rfl _ _ 22 rfl w0.heap.size 24 i0 (.agg #[.int .i64 0, .string ⟨#[]⟩]) 2 24 Try.underlying22 hi hz0 hz1 hz2 rfl (by decide) _ 0 [] rfl HLIT.out ⟨b, off, none⟩ l.length cap (seals (l.take l.length)) rfl hl1.out HS1.out (seal_one _) (by unfold maxLen; omega) (by omega) (by exact hszl) ?_; intro v5 w5 hown5 hg _; have hb5 := HBL.out.grown hg (by exact hszl) (fun k hk => (HLIT.out.lt k hk).1); have HO5 := Lib.hid hown5; have HB5 := Lib.hid hb5; have hsz5 := hb5.size; clear hown5 hg hb5; have r0 := below_cell HB5.out B0.out; have r1 := below_cell HB5.out B1.out; have HNW := Lib.hid (new_sl w5 x t))
          | (at_builtin; refine wpList_append_own _ rfl _ _ 22 rfl w0.heap.size 24 i0 (.agg #[.int .i64 0, .string ⟨#[]⟩]) 2 24 Try.underlying22 hi hz0 hz1 hz2 rfl (by decide) _ (0 + l.length) ([] ++ seals (l.take l.length)) rfl (HO5.out.alloc _) ⟨w5.heap.size, 0, none⟩ 1 1 [.int .i64 x, tx t] rfl rfl HNW.out (by intro u hu; simp at hu; rcases hu with rfl | rfl <;> rfl) (by unfold maxLen; omega) (by omega) (by simp; omega) ?_; intro v6 w6 hown6 hg _; have hb6 := (HB5.out.alloc hsz5 _).grown hg (by simp; omega) (fun k hk => (HO5.out.lt k hk).1); have HO6 := Lib.hid hown6; have HB6 := Lib.hid hb6; have hsz6 := hb6.size; clear hown6 hg hb6)
          | (at_builtin; refine wpList_append_own _ rfl _ _ 22 rfl w0.heap.size 24 i0 (.agg #[.int .i64 0, .string ⟨#[]⟩]) 2 24 Try.underlying22 hi hz0 hz1 hz2 rfl (by decide) _ ((0 + l.length) + 1) (([] ++ seals (l.take l.length)) ++ [.int .i64 x, tx t]) rfl HO6.out ⟨b, off + l.length * 2, none⟩ 0 (cap - l.length) [] rfl rfl (fun j u h => absurd h (by simp)) (fun u h => absurd h (by simp)) (by unfold maxLen; omega) (by omega) (by exact hsz6) ?_; intro v7 w7 hown7 hg _; have hb7 := HB6.out.grown hg (by exact hsz6) (fun k hk => (HO6.out.lt k hk).1); have HO7 := Lib.hid hown7; have HB7 := Lib.hid hb7; have hsz7 := hb7.size; clear hown7 hg hb7))
        go_wp2
        go_ret
        refine ⟨_, rfl, ?_, by first | exact GR.out.trans (HB7.out.mono GR.out.size) | (rw [← hC]; exact GR.out.trans (HB7.out.mono GR.out.size))⟩
        have h := FlatAt.own HO7.out
        rw [HINS.out]
        simpa [seals_app, seals_cons, seals_nil, iv] using h

set_option maxHeartbeats 4000000 in
theorem rbput_nil (x : Int) (t : List UInt8) (w : World) (h : Bk.inR (x, t) = true) (hh : Bk.has [] (x, t) = false) :
    Calls Try.prog 13 #[.slice none 0 0, sv (x, t)] w fun e w' => ∃ u, e = .returned u ∧ FlatAt w' u 2 (seals [(x, t)]) ∧ Below w.heap.size w w' := by
  have hv : BookAt w (.slice none 0 0) [] := .inl ⟨_, rfl, rfl⟩
  have HINS := Lib.hid (show [(x, t)] = ([] : List Bk.Sl) ++ (x, t) :: [] from rfl)
  obtain ⟨i0, hi, hz0, hz1, hz2⟩ := info_parts info_sl
  obtain ⟨C, hC⟩ : ∃ C, w.heap.size = C := ⟨_, rfl⟩
  obtain ⟨w0, hw0⟩ : ∃ w0, w.alloc (.cells #[.int .i64 x, tx t] 24) = w0 := ⟨_, rfl⟩
  have g0 : Below w.heap.size w w0 := by rw [← hw0]; exact (Below.refl _ _).alloc (Nat.le_refl _) _
  have GR := Lib.hid g0
  have HV := Lib.hid (hv.below g0)
  have B0 := Lib.hid (show w0.cell? ⟨C, 0, none⟩ = some (.int .i64 x) by rw [← hw0, ← hC]; simp)
  have B1 := Lib.hid (show w0.cell? ⟨C, 1, none⟩ = some (tx t) by rw [← hw0, ← hC]; simp)
  have HH := Lib.hid hh
  have hr1 : decide (x < 1) = false := by simp only [Bk.inR, decide_eq_true_iff] at h; rw [decide_eq_false_iff_not]; omega
  have hr2 : decide (64 < x) = false := by simp only [Bk.inR, decide_eq_true_iff] at h; rw [decide_eq_false_iff_not]; omega
  clear g0 hv hh h
  simp only [sv, iv]
  have z0 := B0.out
  have z1 := B1.out
  go_enter Try.func13, Try.ntmps13
  go_wp2_with fail
  clear hw0 z0 z1
  refine (rbhas_eq (s := (x, t)) HH.out _ HV.out.flat (by simp)).mono ?_
  rintro e w1 ⟨rfl, h1⟩
  have r0 := below_cell h1 B0.out
  have HB1 := Lib.hid h1
  clear h1
  go_wp2_with fail
  clear hr1 hr2 r0
  clear HV
  refine wp_loop_rounds 1 ?_
  rw [rounds_succ]
  go_upto_region 5 with fail
  go_quiet (fail)
  generalize hw9 : World.drewN w1 _ = w9
  have HB4 := Lib.hid (show Below w0.heap.size w0 w9 by rw [← hw9]; exact HB1.out.trans ((grow_draws _ _).mono HB1.out.size))
  clear hw9
  have hsz4 := HB4.out.size
  have HLIT := Lib.hid (World.ownsRow_lit (base := w0.heap.size) (e := 24) (size := 2) w9 #[] 0 hsz4 (by decide) rfl)
  have hgl : Below w9.heap.size w9 (w9.alloc (.cells #[] 24)) := (Below.refl _ _).alloc (Nat.le_refl _) _
  have hszl : w0.heap.size ≤ (w9.alloc (.cells #[] 24)).heap.size := by simp; omega
  have HBL := Lib.hid (HB4.out.alloc hsz4 (.cells #[] 24))
  go_wp2_with (first
    | (at_builtin; refine wpList_append_own_none rfl _ _ 22 rfl w0.heap.size 24 i0 2 Try.underlying22 hi _ _ _ rfl HLIT.out rfl ?_; have r0 := below_cell HBL.out B0.out; have r1 := below_cell HBL.out B1.out; have HNW := Lib.hid (new_sl2 w9 (.cells #[] 24) x t))
    | (at_builtin; refine wpList_append_own _ rfl _ _ 22 rfl w0.heap.size 24 i0 (.agg #[.int .i64 0, .string ⟨#[]⟩]) 2 24 Try.underlying22 hi hz0 hz1 hz2 rfl (by decide) _ 0 [] rfl (HLIT.out.alloc _) ⟨w9.heap.size + 1, 0, none⟩ 1 1 [.int .i64 x, tx t] rfl rfl HNW.out (by intro u hu; simp at hu; rcases hu with rfl | rfl <;> rfl) (by unfold maxLen; omega) (by omega) (by simp; omega) ?_; intro v6 w6 hown6 hg _; have hb6 := (HBL.out.alloc hszl _).grown hg (by simp; omega) (fun k hk => (HLIT.out.lt k hk).1); have HO6 := Lib.hid hown6; have HB6 := Lib.hid hb6; have hsz6 := hb6.size; clear hown6 hg hb6)
    | (at_builtin; refine wpList_append_own_none rfl _ _ 22 rfl w0.heap.size 24 i0 2 Try.underlying22 hi _ _ _ rfl HO6.out rfl ?_))
  go_wp2
  go_ret
  refine ⟨_, rfl, ?_, by first | exact GR.out.trans (HB6.out.mono GR.out.size) | (rw [← hC]; exact GR.out.trans (HB6.out.mono GR.out.size))⟩
  have h := FlatAt.own HO6.out
  rw [HINS.out]
  simpa [seals_app, seals_cons, seals_nil, iv] using h

set_option maxHeartbeats 4000000 in
theorem rbput_ad (ad : Addr) (x : Int) (t : List UInt8) (w : World) (h : Bk.inR (x, t) = true) (hh : Bk.has [] (x, t) = false) :
    Calls Try.prog 13 #[.slice (some ad) 0 0, sv (x, t)] w fun e w' => ∃ u, e = .returned u ∧ FlatAt w' u 2 (seals [(x, t)]) ∧ Below w.heap.size w w' := by
  have hv : BookAt w (.slice (some ad) 0 0) [] := .inl ⟨_, rfl, rfl⟩
  have HINS := Lib.hid (show [(x, t)] = ([] : List Bk.Sl) ++ (x, t) :: [] from rfl)
  obtain ⟨i0, hi, hz0, hz1, hz2⟩ := info_parts info_sl
  obtain ⟨C, hC⟩ : ∃ C, w.heap.size = C := ⟨_, rfl⟩
  obtain ⟨w0, hw0⟩ : ∃ w0, w.alloc (.cells #[.int .i64 x, tx t] 24) = w0 := ⟨_, rfl⟩
  have g0 : Below w.heap.size w w0 := by rw [← hw0]; exact (Below.refl _ _).alloc (Nat.le_refl _) _
  have GR := Lib.hid g0
  have HV := Lib.hid (hv.below g0)
  have B0 := Lib.hid (show w0.cell? ⟨C, 0, none⟩ = some (.int .i64 x) by rw [← hw0, ← hC]; simp)
  have B1 := Lib.hid (show w0.cell? ⟨C, 1, none⟩ = some (tx t) by rw [← hw0, ← hC]; simp)
  have HH := Lib.hid hh
  have hr1 : decide (x < 1) = false := by simp only [Bk.inR, decide_eq_true_iff] at h; rw [decide_eq_false_iff_not]; omega
  have hr2 : decide (64 < x) = false := by simp only [Bk.inR, decide_eq_true_iff] at h; rw [decide_eq_false_iff_not]; omega
  clear g0 hv hh h
  simp only [sv, iv]
  have z0 := B0.out
  have z1 := B1.out
  go_enter Try.func13, Try.ntmps13
  go_wp2_with fail
  clear hw0 z0 z1
  refine (rbhas_eq (s := (x, t)) HH.out _ HV.out.flat (by simp)).mono ?_
  rintro e w1 ⟨rfl, h1⟩
  have r0 := below_cell h1 B0.out
  have HB1 := Lib.hid h1
  clear h1
  go_wp2_with fail
  clear hr1 hr2 r0
  clear HV
  refine wp_loop_rounds 1 ?_
  rw [rounds_succ]
  go_upto_region 5 with fail
  go_quiet (fail)
  generalize hw9 : World.drewN w1 _ = w9
  have HB4 := Lib.hid (show Below w0.heap.size w0 w9 by rw [← hw9]; exact HB1.out.trans ((grow_draws _ _).mono HB1.out.size))
  clear hw9
  have hsz4 := HB4.out.size
  have HLIT := Lib.hid (World.ownsRow_lit (base := w0.heap.size) (e := 24) (size := 2) w9 #[] 0 hsz4 (by decide) rfl)
  have hgl : Below w9.heap.size w9 (w9.alloc (.cells #[] 24)) := (Below.refl _ _).alloc (Nat.le_refl _) _
  have hszl : w0.heap.size ≤ (w9.alloc (.cells #[] 24)).heap.size := by simp; omega
  have HBL := Lib.hid (HB4.out.alloc hsz4 (.cells #[] 24))
  go_wp2_with (first
    | (at_builtin; refine wpList_append_own _ rfl _ _ 22 rfl w0.heap.size 24 i0 (.agg #[.int .i64 0, .string ⟨#[]⟩]) 2 24 Try.underlying22 hi hz0 hz1 hz2 rfl (by decide) _ 0 [] rfl HLIT.out ad 0 0 [] rfl rfl (fun j u h => absurd h (by simp)) (fun u h => absurd h (by simp)) (by unfold maxLen; omega) (by omega) (by exact hszl) ?_; intro v5 w5 hown5 hg _; have hb5 := HBL.out.grown hg (by exact hszl) (fun k hk => (HLIT.out.lt k hk).1); have HO5 := Lib.hid hown5; have HB5 := Lib.hid hb5; have hsz5 := hb5.size; clear hown5 hg hb5; have r0 := below_cell HB5.out B0.out; have r1 := below_cell HB5.out B1.out; have HNW := Lib.hid (new_sl w5 x t))
    | (at_builtin; refine wpList_append_own _ rfl _ _ 22 rfl w0.heap.size 24 i0 (.agg #[.int .i64 0, .string ⟨#[]⟩]) 2 24 Try.underlying22 hi hz0 hz1 hz2 rfl (by decide) _ (0 + 0) ([] ++ []) rfl (HO5.out.alloc _) ⟨w5.heap.size, 0, none⟩ 1 1 [.int .i64 x, tx t] rfl rfl HNW.out (by intro u hu; simp at hu; rcases hu with rfl | rfl <;> rfl) (by unfold maxLen; omega) (by omega) (by simp; omega) ?_; intro v6 w6 hown6 hg _; have hb6 := (HB5.out.alloc hsz5 _).grown hg (by simp; omega) (fun k hk => (HO5.out.lt k hk).1); have HO6 := Lib.hid hown6; have HB6 := Lib.hid hb6; have hsz6 := hb6.size; clear hown6 hg hb6)
    | (at_builtin; refine wpList_append_own _ rfl _ _ 22 rfl w0.heap.size 24 i0 (.agg #[.int .i64 0, .string ⟨#[]⟩]) 2 24 Try.underlying22 hi hz0 hz1 hz2 rfl (by decide) _ ((0 + 0) + 1) (([] ++ []) ++ [.int .i64 x, tx t]) rfl HO6.out ad 0 0 [] rfl rfl (fun j u h => absurd h (by simp)) (fun u h => absurd h (by simp)) (by unfold maxLen; omega) (by omega) (by exact hsz6) ?_; intro v7 w7 hown7 hg _; have hb7 := HB6.out.grown hg (by exact hsz6) (fun k hk => (HO6.out.lt k hk).1); have HO7 := Lib.hid hown7; have HB7 := Lib.hid hb7; have hsz7 := hb7.size; clear hown7 hg hb7))
  go_wp2
  go_ret
  refine ⟨_, rfl, ?_, by first | exact GR.out.trans (HB7.out.mono GR.out.size) | (rw [← hC]; exact GR.out.trans (HB7.out.mono GR.out.size))⟩
  have h := FlatAt.own HO7.out
  rw [HINS.out]
  simpa [seals_app, seals_cons, seals_nil, iv] using h
end Go.Proofs.Ytpodccgaigkalaa
