/- Package book as it landed: Put, where a seal comes. -/
import Derived.Test.YtpodccgaigkalaaBkPut2
import Derived.Deep.DeepCutAuto
import Derived.Deep.RegionHeld
namespace Go.Proofs.Ytpodccgaigkalaa
open Go.RowKit

theorem seals_app (a b : List Bk.Sl) : seals (a ++ b) = seals a ++ seals b := by
  unfold seals; rw [List.flatMap_append]
theorem seals_cons (s : Bk.Sl) (l : List Bk.Sl) : seals (s :: l) = iv s.1 :: tx s.2 :: seals l := rfl

/-- The three parts that Put joins. -/
theorem bput_cat (K : Nat) (l : List Bk.Sl) (s : Bk.Sl) (W : World) (v1 v3 : Value) (hK : K ≤ l.length) (hl : l.length ≤ 5864062014804) (h1 : Src W v1 K (seals (l.take K)))
    (h3 : Src W v3 (l.length - K) (seals (l.drop K))) :
    Calls Try.prog 27 #[.slice (some ⟨W.heap.size + 1, 0, none⟩) 3 3]
      ((W.alloc (Obj.cells #[iv s.1, tx s.2] 24)).alloc (Obj.cells #[v1, .slice (some ⟨W.heap.size, 0, none⟩) 1 1, v3] 22)).drew
      fun e w' => ∃ u, e = .returned u ∧ w'.ownsRow W.heap.size 24 2 u (l.length + 1) (seals (l.take K ++ s :: l.drop K)) ∧ Below W.heap.size W w' := by
  have g1 : Below W.heap.size W (W.alloc (Obj.cells #[iv s.1, tx s.2] 24)) := (Below.refl _ _).alloc (Nat.le_refl _) _
  have g2 : Below W.heap.size W ((W.alloc (Obj.cells #[iv s.1, tx s.2] 24)).alloc (Obj.cells #[v1, .slice (some ⟨W.heap.size, 0, none⟩) 1 1, v3] 22)).drew := (g1.alloc g1.size _).drew
  obtain ⟨W2, hW2⟩ : ∃ W2, ((W.alloc (Obj.cells #[iv s.1, tx s.2] 24)).alloc (Obj.cells #[v1, .slice (some ⟨W.heap.size, 0, none⟩) 1 1, v3] 22)).drew = W2 := ⟨_, rfl⟩
  have a0 : W2.cell? ⟨W.heap.size + 1, 0, none⟩ = some v1 := by rw [← hW2]; simp
  have a1 : W2.cell? ⟨W.heap.size + 1, 1, none⟩ = some (.slice (some ⟨W.heap.size, 0, none⟩) 1 1) := by rw [← hW2]; simp
  have a2 : W2.cell? ⟨W.heap.size + 1, 2, none⟩ = some v3 := by rw [← hW2]; simp
  have e0 : W2.cell? ⟨W.heap.size, 0, none⟩ = some (iv s.1) := by rw [← hW2]; simp
  have e1 : W2.cell? ⟨W.heap.size, 1, none⟩ = some (tx s.2) := by rw [← hW2]; simp
  rw [hW2] at g2 ⊢
  clear hW2 g1
  have s1 := h1.below g2
  have s2 : Src W2 (.slice (some ⟨W.heap.size, 0, none⟩) 1 1) 1 (seals [s]) := by
    refine .inr ⟨_, 1, rfl, rfl, ?_, seal_one _⟩
    apply clone_row
    intro k hk
    obtain rfl : k = 0 := by simpa using hk
    exact ⟨by simpa using e0, by simpa using e1⟩
  have hb := bconcat (W.heap.size + 1) 0 3 [(v1, K, seals (l.take K)), (.slice (some ⟨W.heap.size, 0, none⟩) 1 1, 1, seals [s]), (v3, l.length - K, seals (l.drop K))] W2 (by simp)
    (by simp [sumN]; omega) (by simp [sumN]; omega)
    (by
      intro i hi
      match i, hi with
      | 0, _ => simpa using a0
      | 1, _ => simpa using a1
      | 2, _ => simpa using a2)
    (by
      intro i hi
      match i, hi with
      | 0, _ => exact s1
      | 1, _ => exact s2
      | 2, _ => exact h3.below g2)
  refine hb.mono ?_
  rintro e w' ⟨u, rfl, hown, hbel⟩
  refine ⟨u, rfl, ?_, grow_trans g2 hbel⟩
  have hn : sumN [(v1, K, seals (l.take K)), (.slice (some ⟨W.heap.size, 0, none⟩) 1 1, 1, seals [s]), (v3, l.length - K, seals (l.drop K))] = l.length + 1 := by simp [sumN]; omega
  have hcs : cat [(v1, K, seals (l.take K)), (.slice (some ⟨W.heap.size, 0, none⟩) 1 1, 1, seals [s]), (v3, l.length - K, seals (l.drop K))] = seals (l.take K ++ s :: l.drop K) := by
    rw [seals_app, seals_cons]; simp [cat, seals]
  rw [hn, hcs] at hown
  exact World.ownsRow.mono hown g2.size

theorem src_drop {w : World} {b off cap K : Nat} {l : List Bk.Sl} (hc : ∀ k (h : k < l.length), w.cell? ⟨b, off + k * 2, none⟩ = some (iv l[k].1) ∧ w.cell? ⟨b, off + k * 2 + 1, none⟩ = some (tx l[k].2)) (hK : K ≤ l.length) :
    Src w (.slice (some ⟨b, off + K * 2, none⟩) (l.length - K) (cap - K)) (l.length - K) (seals (l.drop K)) := by
  refine .inr ⟨_, _, rfl, by rw [seals_len, List.length_drop], ?_, seal_one _⟩
  apply clone_row
  intro k hk
  rw [List.length_drop] at hk
  obtain ⟨c1, c2⟩ := hc (K + k) (by omega)
  have e : off + K * 2 + k * 2 = off + (K + k) * 2 := by omega
  rw [List.getElem_drop, e]
  exact ⟨c1, c2⟩

theorem src_take {w : World} {b off cap K : Nat} {l : List Bk.Sl} (hc : ∀ k (h : k < l.length), w.cell? ⟨b, off + k * 2, none⟩ = some (iv l[k].1) ∧ w.cell? ⟨b, off + k * 2 + 1, none⟩ = some (tx l[k].2)) (hK : K ≤ l.length) :
    Src w (.slice (some ⟨b, off, none⟩) K cap) K (seals (l.take K)) := by
  refine .inr ⟨_, cap, rfl, by rw [seals_len, List.length_take]; omega, ?_, seal_one _⟩
  apply clone_row
  intro k hk
  rw [List.length_take] at hk
  rw [List.getElem_take]
  exact hc k (by omega)

set_option maxHeartbeats 4000000 in
theorem pbput_found (b off cap : Nat) (l : List Bk.Sl) (s : Bk.Sl) (w : World) (hle : l.length ≤ cap) (hcap : cap ≤ 9223372036854775807)
    (hc : ∀ k (h : k < l.length), w.cell? ⟨b, off + k * 2, none⟩ = some (iv l[k].1) ∧ w.cell? ⟨b, off + k * 2 + 1, none⟩ = some (tx l[k].2))
    (hl : l.length ≤ 5864062014804) (h : Bk.inR s = true) (hh : Bk.has l s = false) (hlt : idxN s l < l.length) :
    Calls Try.prog 12 #[.slice (some ⟨b, off, none⟩) l.length cap, sv s] w fun e w' => ∃ u, e = .returned u ∧ w'.ownsRow w.heap.size 24 2 u (l.length + 1) (seals (Bk.ins s l)) ∧ Below w.heap.size w w' := by
  have hm := fun W => pbmay s.1 W
  have hinR : decide (1 ≤ s.1 ∧ s.1 ≤ 64) = Bk.inR s := rfl
  rw [hinR, h] at hm
  have g0 : Below w.heap.size w (w.alloc (.cells #[iv s.1, tx s.2] 24)) := (Below.refl _ _).alloc (Nat.le_refl _) _
  have hv : BookAt w (.slice (some ⟨b, off, none⟩) l.length cap) l := .inr ⟨b, off, cap, rfl, hle, hcap, hc⟩
  have HV := Lib.hid (hv.below g0)
  have q0 : (w.alloc (.cells #[iv s.1, tx s.2] 24)).cell? ⟨w.heap.size, 0, none⟩ = some (iv s.1) := by simp
  have q1 : (w.alloc (.cells #[iv s.1, tx s.2] 24)).cell? ⟨w.heap.size, 1, none⟩ = some (tx s.2) := by simp
  have Q0 := Lib.hid q0
  have Q1 := Lib.hid q1
  have hhas := fun W hs => pbhas (.slice (some ⟨b, off, none⟩) l.length cap) l s W hs (by omega)
  rw [hh] at hhas
  have hidx := fun W hv h0 h1 => pidx (.slice (some ⟨b, off, none⟩) l.length cap) l s w.heap.size W hv (by omega) h0 h1
  have hI : idxI s l = (idxN s l : Int) := by rw [idxI, if_pos hlt]
  rw [hI] at hidx
  have HINS := Lib.hid (ins_idx s l)
  obtain ⟨K, hK⟩ : ∃ K, idxN s l = K := ⟨_, rfl⟩
  simp only [hK] at hidx HINS hlt
  have hKc : K ≤ cap := by omega
  have hK63 : (K : Int) ≤ 9223372036854775807 := by omega
  have GR := Lib.hid g0
  clear hv q0 q1 hc hinR h hh hI hK
  go_enter Try.func12, Try.ntmps12
  go_wp2_with fail
  refine (hm _).mono ?_
  rintro e w1 ⟨rfl, rfl⟩
  go_wp2_with fail
  refine (hhas _ HV.out.flat).mono ?_
  rintro e w2 ⟨rfl, hb1⟩
  go_wp2_with fail
  refine (hidx _ (HV.out.below hb1) (below_cell hb1 Q0.out) (below_cell hb1 Q1.out)).mono ?_
  rintro e w3 ⟨rfl, hb2⟩
  have HB := Lib.hid (grow_trans hb1 hb2)
  have r0 := below_cell HB.out Q0.out
  have r1 := below_cell HB.out Q1.out
  have hcw : ∀ k (h : k < l.length), w3.cell? ⟨b, off + k * 2, none⟩ = some (iv l[k].1) ∧ w3.cell? ⟨b, off + k * 2 + 1, none⟩ = some (tx l[k].2) := by
    rcases HV.out.below HB.out with ⟨_, _, e⟩ | ⟨b', off', cap', e, _, _, hc'⟩
    · intro k h; exact absurd h (by rw [e]; simp)
    · simp only [Value.slice.injEq, Option.some.injEq, Addr.mk.injEq, and_true, true_and] at e
      obtain ⟨⟨rfl, rfl⟩, rfl⟩ := e
      exact hc'
  have hcat := Lib.hid (bput_cat K l s w3 _ _ (Nat.le_of_lt hlt) hl (src_take (cap := cap) hcw (Nat.le_of_lt hlt)) (src_drop (cap := cap) hcw (Nat.le_of_lt hlt)))
  clear hm hhas hidx hb1 hb2 hcw
  go_upto_region 6 with fail
  go_region_held (fun w' : World => w'.cell? ⟨w.heap.size, 0, none⟩ = some (iv s.1) ∧ w'.cell? ⟨w.heap.size, 1, none⟩ = some (tx s.2)) (first | go_keep | exact ⟨below_cell hb3 r0, below_cell hb3 r1⟩) (first | (go_at_call 27; refine hcat.out.mono ?_; rintro e w4 ⟨u, rfl, hown, hb3⟩))
  all_goals go_wp2
  all_goals go_ret
  all_goals exact ⟨_, rfl, by rw [HINS.out]; exact World.ownsRow.mono hown (Nat.le_trans (by simp) HB.out.size), (GR.out.trans (HB.out.mono (by simp))).trans (hb3.mono (Nat.le_trans (by simp) HB.out.size))⟩

set_option maxHeartbeats 4000000 in
theorem pbput_last (b off cap : Nat) (l : List Bk.Sl) (s : Bk.Sl) (w : World) (hle : l.length ≤ cap) (hcap : cap ≤ 9223372036854775807)
    (hc : ∀ k (h : k < l.length), w.cell? ⟨b, off + k * 2, none⟩ = some (iv l[k].1) ∧ w.cell? ⟨b, off + k * 2 + 1, none⟩ = some (tx l[k].2))
    (hl : l.length ≤ 5864062014804) (h : Bk.inR s = true) (hh : Bk.has l s = false) (hlt : idxN s l = l.length) :
    Calls Try.prog 12 #[.slice (some ⟨b, off, none⟩) l.length cap, sv s] w fun e w' => ∃ u, e = .returned u ∧ w'.ownsRow w.heap.size 24 2 u (l.length + 1) (seals (Bk.ins s l)) ∧ Below w.heap.size w w' := by
  have hm := fun W => pbmay s.1 W
  have hinR : decide (1 ≤ s.1 ∧ s.1 ≤ 64) = Bk.inR s := rfl
  rw [hinR, h] at hm
  have g0 : Below w.heap.size w (w.alloc (.cells #[iv s.1, tx s.2] 24)) := (Below.refl _ _).alloc (Nat.le_refl _) _
  have hv : BookAt w (.slice (some ⟨b, off, none⟩) l.length cap) l := .inr ⟨b, off, cap, rfl, hle, hcap, hc⟩
  have HV := Lib.hid (hv.below g0)
  have q0 : (w.alloc (.cells #[iv s.1, tx s.2] 24)).cell? ⟨w.heap.size, 0, none⟩ = some (iv s.1) := by simp
  have q1 : (w.alloc (.cells #[iv s.1, tx s.2] 24)).cell? ⟨w.heap.size, 1, none⟩ = some (tx s.2) := by simp
  have Q0 := Lib.hid q0
  have Q1 := Lib.hid q1
  have hhas := fun W hs => pbhas (.slice (some ⟨b, off, none⟩) l.length cap) l s W hs (by omega)
  rw [hh] at hhas
  have hidx := fun W hv h0 h1 => pidx (.slice (some ⟨b, off, none⟩) l.length cap) l s w.heap.size W hv (by omega) h0 h1
  have hI : idxI s l = -1 := by rw [idxI, if_neg (by omega)]
  rw [hI] at hidx
  have HINS := Lib.hid (ins_idx s l)
  rw [hlt] at HINS
  have GR := Lib.hid g0
  clear hv q0 q1 hc hinR h hh hI hlt
  go_enter Try.func12, Try.ntmps12
  go_wp2_with fail
  refine (hm _).mono ?_
  rintro e w1 ⟨rfl, rfl⟩
  go_wp2_with fail
  refine (hhas _ HV.out.flat).mono ?_
  rintro e w2 ⟨rfl, hb1⟩
  go_wp2_with fail
  refine (hidx _ (HV.out.below hb1) (below_cell hb1 Q0.out) (below_cell hb1 Q1.out)).mono ?_
  rintro e w3 ⟨rfl, hb2⟩
  have HB := Lib.hid (grow_trans hb1 hb2)
  have r0 := below_cell HB.out Q0.out
  have r1 := below_cell HB.out Q1.out
  have hcw : ∀ k (h : k < l.length), w3.cell? ⟨b, off + k * 2, none⟩ = some (iv l[k].1) ∧ w3.cell? ⟨b, off + k * 2 + 1, none⟩ = some (tx l[k].2) := by
    rcases HV.out.below HB.out with ⟨_, _, e⟩ | ⟨b', off', cap', e, _, _, hc'⟩
    · intro k h; exact absurd h (by rw [e]; simp)
    · simp only [Value.slice.injEq, Option.some.injEq, Addr.mk.injEq, and_true, true_and] at e
      obtain ⟨⟨rfl, rfl⟩, rfl⟩ := e
      exact hc'
  have hd0 : l.drop l.length = [] := List.drop_length
  by_cases hcc : cap = l.length
  · have hcat := Lib.hid (bput_cat l.length l s w3 _ (.slice (some ⟨b, off, none⟩) 0 0) (Nat.le_refl _) hl (src_take (cap := l.length) hcw (Nat.le_refl _)) (by rw [Nat.sub_self, hd0]; exact .inr ⟨_, 0, rfl, rfl, fun j u h => absurd h (by simp [seals]), seal_one _⟩))
    clear hd0
    subst hcc
    clear hm hhas hidx hb1 hb2 hcw
    go_upto_region 6 with fail
    go_region_held (fun w' : World => w'.cell? ⟨w.heap.size, 0, none⟩ = some (iv s.1) ∧ w'.cell? ⟨w.heap.size, 1, none⟩ = some (tx s.2)) (first | go_keep | exact ⟨below_cell hb3 r0, below_cell hb3 r1⟩) (first | (go_at_call 27; refine hcat.out.mono ?_; rintro e w4 ⟨u, rfl, hown, hb3⟩))
    all_goals go_wp2
    all_goals go_ret
    all_goals exact ⟨_, rfl, by rw [HINS.out]; exact World.ownsRow.mono hown (Nat.le_trans (by simp) HB.out.size), (GR.out.trans (HB.out.mono (by simp))).trans (hb3.mono (Nat.le_trans (by simp) HB.out.size))⟩
  · have hcat := Lib.hid (bput_cat l.length l s w3 _ _ (Nat.le_refl _) hl (src_take (cap := cap) hcw (Nat.le_refl _)) (src_drop (cap := cap) hcw (Nat.le_refl _)))
    rw [Nat.sub_self] at hcat
    clear hd0
    clear hm hhas hidx hb1 hb2 hcw
    go_upto_region 6 with fail
    go_region_held (fun w' : World => w'.cell? ⟨w.heap.size, 0, none⟩ = some (iv s.1) ∧ w'.cell? ⟨w.heap.size, 1, none⟩ = some (tx s.2)) (first | go_keep | exact ⟨below_cell hb3 r0, below_cell hb3 r1⟩) (first | (go_at_call 27; refine hcat.out.mono ?_; rintro e w4 ⟨u, rfl, hown, hb3⟩))
    all_goals go_wp2
    all_goals go_ret
    all_goals exact ⟨_, rfl, by rw [HINS.out]; exact World.ownsRow.mono hown (Nat.le_trans (by simp) HB.out.size), (GR.out.trans (HB.out.mono (by simp))).trans (hb3.mono (Nat.le_trans (by simp) HB.out.size))⟩

set_option maxHeartbeats 4000000 in
theorem pbput_nil (s : Bk.Sl) (w : World) (h : Bk.inR s = true) :
    Calls Try.prog 12 #[.slice none 0 0, sv s] w fun e w' => ∃ u, e = .returned u ∧ w'.ownsRow w.heap.size 24 2 u (1) (seals ([s])) ∧ Below w.heap.size w w' := by
  have hm := fun W => pbmay s.1 W
  have hinR : decide (1 ≤ s.1 ∧ s.1 ≤ 64) = Bk.inR s := rfl
  rw [hinR, h] at hm
  have g0 : Below w.heap.size w (w.alloc (.cells #[iv s.1, tx s.2] 24)) := (Below.refl _ _).alloc (Nat.le_refl _) _
  have hv : BookAt w (.slice none 0 0) [] := .inl ⟨none, rfl, rfl⟩
  have HV := Lib.hid (hv.below g0)
  have q0 : (w.alloc (.cells #[iv s.1, tx s.2] 24)).cell? ⟨w.heap.size, 0, none⟩ = some (iv s.1) := by simp
  have q1 : (w.alloc (.cells #[iv s.1, tx s.2] 24)).cell? ⟨w.heap.size, 1, none⟩ = some (tx s.2) := by simp
  have Q0 := Lib.hid q0
  have Q1 := Lib.hid q1
  have hhas := fun W hs => pbhas (.slice none 0 0) [] s W hs (by simp)
  have hh : Bk.has [] s = false := by simp [Bk.has]
  rw [hh] at hhas
  have hidx := fun W hv h0 h1 => pidx (.slice none 0 0) [] s w.heap.size W hv (by simp) h0 h1
  have hI : idxI s [] = -1 := by rfl
  rw [hI] at hidx
  have GR := Lib.hid g0
  clear hv q0 q1 hinR h hh hI
  go_enter Try.func12, Try.ntmps12
  go_wp2_with fail
  refine (hm _).mono ?_
  rintro e w1 ⟨rfl, rfl⟩
  go_wp2_with fail
  refine (hhas _ HV.out.flat).mono ?_
  rintro e w2 ⟨rfl, hb1⟩
  go_wp2_with fail
  refine (hidx _ (HV.out.below hb1) (below_cell hb1 Q0.out) (below_cell hb1 Q1.out)).mono ?_
  rintro e w3 ⟨rfl, hb2⟩
  have HB := Lib.hid (grow_trans hb1 hb2)
  have r0 := below_cell HB.out Q0.out
  have r1 := below_cell HB.out Q1.out
  have hcat := Lib.hid (bput_cat 0 [] s w3 (.slice none 0 0) (.slice none 0 0) (Nat.le_refl _) (by simp) (.inl ⟨rfl, rfl, rfl⟩) (.inl ⟨rfl, rfl, rfl⟩))
  clear hm hhas hidx hb1 hb2
  go_upto_region 6 with fail
  go_region_held (fun w' : World => w'.cell? ⟨w.heap.size, 0, none⟩ = some (iv s.1) ∧ w'.cell? ⟨w.heap.size, 1, none⟩ = some (tx s.2)) (first | go_keep | exact ⟨below_cell hb3 r0, below_cell hb3 r1⟩) (first | (go_at_call 27; refine hcat.out.mono ?_; rintro e w4 ⟨u, rfl, hown, hb3⟩))
  all_goals go_wp2
  all_goals go_ret
  all_goals exact ⟨_, rfl, by simpa using World.ownsRow.mono hown (Nat.le_trans (by simp) HB.out.size), (GR.out.trans (HB.out.mono (by simp))).trans (hb3.mono (Nat.le_trans (by simp) HB.out.size))⟩

set_option maxHeartbeats 4000000 in
theorem pbput_nil2 (ad : Addr) (s : Bk.Sl) (w : World) (h : Bk.inR s = true) :
    Calls Try.prog 12 #[.slice (some ad) 0 0, sv s] w fun e w' => ∃ u, e = .returned u ∧ w'.ownsRow w.heap.size 24 2 u (1) (seals ([s])) ∧ Below w.heap.size w w' := by
  have hm := fun W => pbmay s.1 W
  have hinR : decide (1 ≤ s.1 ∧ s.1 ≤ 64) = Bk.inR s := rfl
  rw [hinR, h] at hm
  have g0 : Below w.heap.size w (w.alloc (.cells #[iv s.1, tx s.2] 24)) := (Below.refl _ _).alloc (Nat.le_refl _) _
  have hv : BookAt w (.slice (some ad) 0 0) [] := .inl ⟨some ad, rfl, rfl⟩
  have HV := Lib.hid (hv.below g0)
  have q0 : (w.alloc (.cells #[iv s.1, tx s.2] 24)).cell? ⟨w.heap.size, 0, none⟩ = some (iv s.1) := by simp
  have q1 : (w.alloc (.cells #[iv s.1, tx s.2] 24)).cell? ⟨w.heap.size, 1, none⟩ = some (tx s.2) := by simp
  have Q0 := Lib.hid q0
  have Q1 := Lib.hid q1
  have hhas := fun W hs => pbhas (.slice (some ad) 0 0) [] s W hs (by simp)
  have hh : Bk.has [] s = false := by simp [Bk.has]
  rw [hh] at hhas
  have hidx := fun W hv h0 h1 => pidx (.slice (some ad) 0 0) [] s w.heap.size W hv (by simp) h0 h1
  have hI : idxI s [] = -1 := by rfl
  rw [hI] at hidx
  have GR := Lib.hid g0
  clear hv q0 q1 hinR h hh hI
  go_enter Try.func12, Try.ntmps12
  go_wp2_with fail
  refine (hm _).mono ?_
  rintro e w1 ⟨rfl, rfl⟩
  go_wp2_with fail
  refine (hhas _ HV.out.flat).mono ?_
  rintro e w2 ⟨rfl, hb1⟩
  go_wp2_with fail
  refine (hidx _ (HV.out.below hb1) (below_cell hb1 Q0.out) (below_cell hb1 Q1.out)).mono ?_
  rintro e w3 ⟨rfl, hb2⟩
  have HB := Lib.hid (grow_trans hb1 hb2)
  have r0 := below_cell HB.out Q0.out
  have r1 := below_cell HB.out Q1.out
  have hcat := Lib.hid (bput_cat 0 [] s w3 (.slice (some ad) 0 0) (.slice (some ad) 0 0) (Nat.le_refl _) (by simp) (.inr ⟨ad, 0, rfl, rfl, fun j u h => absurd h (by simp [seals]), seal_one _⟩) (.inr ⟨ad, 0, rfl, rfl, fun j u h => absurd h (by simp [seals]), seal_one _⟩))
  clear hm hhas hidx hb1 hb2
  go_upto_region 6 with fail
  go_region_held (fun w' : World => w'.cell? ⟨w.heap.size, 0, none⟩ = some (iv s.1) ∧ w'.cell? ⟨w.heap.size, 1, none⟩ = some (tx s.2)) (first | go_keep | exact ⟨below_cell hb3 r0, below_cell hb3 r1⟩) (first | (go_at_call 27; refine hcat.out.mono ?_; rintro e w4 ⟨u, rfl, hown, hb3⟩))
  all_goals go_wp2
  all_goals go_ret
  all_goals exact ⟨_, rfl, by simpa using World.ownsRow.mono hown (Nat.le_trans (by simp) HB.out.size), (GR.out.trans (HB.out.mono (by simp))).trans (hb3.mono (Nat.le_trans (by simp) HB.out.size))⟩

theorem len_ins (s : Bk.Sl) (l : List Bk.Sl) : (Bk.ins s l).length = l.length + 1 := by
  rw [ins_idx, List.length_append, List.length_cons, List.length_take, List.length_drop]
  have := idxN_le s l
  omega
theorem pbput (v : Value) (l : List Bk.Sl) (s : Bk.Sl) (w : World) (hv : BookAt w v l) (hl : l.length ≤ 5864062014804) :
    Calls Try.prog 12 #[v, sv s] w fun e w' => ∃ u, e = .returned u ∧ w'.ownsRow w.heap.size 24 2 u (Bk.put l s).length (seals (Bk.put l s)) ∧ Below w.heap.size w w' := by
  cases h : Bk.inR s with
  | false =>
    rw [bput_same l s (.inl h)]
    exact pbput_same v l s w hv (by omega) (.inl h)
  | true =>
    cases hh : Bk.has l s with
    | true =>
      rw [bput_same l s (.inr hh)]
      exact pbput_same v l s w hv (by omega) (.inr ⟨h, hh⟩)
    | false =>
      rw [bput_new l s h hh, len_ins]
      rcases hv with ⟨a, rfl, rfl⟩ | ⟨b, off, cap, rfl, h1, h2, hc⟩
      · cases a with
        | none => exact pbput_nil s w h
        | some ad => exact pbput_nil2 ad s w h
      · by_cases hlt : idxN s l < l.length
        · exact pbput_found b off cap l s w h1 h2 hc hl h hh hlt
        · exact pbput_last b off cap l s w h1 h2 hc hl h hh (by have := idxN_le s l; omega)
end Go.Proofs.Ytpodccgaigkalaa
