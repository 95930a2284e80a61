/- The document's Put, whose answer may be cut and appended again. -/
import Derived.Test.YtflmfbcjmjlkbaaDoorCrABC
import Derived.Deep.RegionHeld3
import Derived.Lib.BufferMore
import Derived.Laws.AppendOwnNone
import Derived.Deep.DeepCutAuto
set_option maxRecDepth 100000
namespace Go.Proofs.YtflmfbcjmjlkbaaDoor
open Go.RowKit
theorem less_eq {a b : List UInt8} {r : Bool} (h : Dg.less a b = r) (ha : a.length ≤ 140737488351232) (hb : b.length ≤ 140737488351232) (w : World) :
    Calls Tryd.prog 77 #[tx a, tx b] w fun e w' => e = .returned (.bool r) ∧ ∃ n, w' = w.drewN n := by subst h; exact less_any a b ha hb w
set_option maxHeartbeats 1000000 in
theorem rahead_any (a b : Bk.Sl) (la : a.2.length ≤ 140737488351232) (lb : b.2.length ≤ 140737488351232) (w : World) :
    Calls Tryd.prog 50 #[.agg #[iv a.1, tx a.2], .agg #[iv b.1, tx b.2]] w fun e w' => e = .returned (.bool (Bk.ahead a b)) ∧ Below w.heap.size w w' := by
  obtain ⟨x, s⟩ := a
  obtain ⟨y, t⟩ := b
  simp only [iv] at la lb ⊢
  obtain ⟨r, hr⟩ : ∃ r, Dg.less s t = r := ⟨_, rfl⟩
  have R := Lib.hid hr
  have hA : Bk.ahead (x, s) (y, t) = (decide (x < y) || decide (x = y) && r) := by rw [Bk.ahead, hr]
  rw [hA]
  clear hr hA
  have grown : ∀ n, Below w.heap.size w (((w.alloc (Obj.cells #[Value.int IntKind.i64 x, tx s] 60)).alloc (Obj.cells #[Value.int IntKind.i64 y, tx t] 60)).drewN n) := fun n =>
    below_drewN (grow_trans ((Below.refl _ _).alloc (Nat.le_refl _) _) ((Below.refl _ _).alloc (Nat.le_refl _) _)) n
  have GR := Lib.hid grown
  clear grown
  rcases Int.lt_trichotomy x y with hlt | heq | hgt
  · have h1 : decide (x < y) = true := decide_eq_true hlt
    rw [h1, Bool.true_or]
    clear hlt
    go_enter Tryd.func50, Tryd.ntmps50
    go_wp2_with fail
    refine (less_eq R.out la lb _).mono ?_
    rintro e w1 ⟨rfl, n, rfl⟩
    go_wp2
    go_ret
    exact ⟨rfl, GR.out _⟩
  · subst heq
    rw [decide_eq_false (Int.lt_irrefl x), decide_eq_true (rfl : x = x), Bool.false_or, Bool.true_and]
    cases r with
    | false =>
      go_enter Tryd.func50, Tryd.ntmps50
      go_wp2_with fail
      refine (less_eq R.out la lb _).mono ?_
      rintro e w1 ⟨rfl, n, rfl⟩
      go_wp2
      go_ret
      exact ⟨rfl, GR.out _⟩
    | true =>
      go_enter Tryd.func50, Tryd.ntmps50
      go_wp2_with fail
      refine (less_eq R.out la lb _).mono ?_
      rintro e w1 ⟨rfl, n, rfl⟩
      go_wp2
      go_ret
      exact ⟨rfl, GR.out _⟩
  · have h1 : decide (x < y) = false := decide_eq_false (by omega)
    have h2 : decide (x = y) = false := decide_eq_false (by omega)
    have h3 : (x == y) = false := by rw [beq_eq_false_iff_ne]; omega
    rw [h1, h2, Bool.false_or, Bool.false_and]
    clear hgt
    go_enter Tryd.func50, Tryd.ntmps50
    go_wp2_with fail
    refine (less_eq R.out la lb _).mono ?_
    rintro e w1 ⟨rfl, n, rfl⟩
    go_wp2
    go_ret
    exact ⟨rfl, GR.out _⟩
end Go.Proofs.YtflmfbcjmjlkbaaDoor
namespace Go.Proofs.YtflmfbcjmjlkbaaDoor
open Go.RowKit
theorem info_sl : (Tryd.prog.info? 60).map (fun i => (i.zero, i.size, i.bytes)) = some (some (.agg #[.int .i64 0, .string ⟨#[]⟩]), 2, 24) := by kernel_rfl
end Go.Proofs.YtflmfbcjmjlkbaaDoor
namespace Go.Proofs.YtflmfbcjmjlkbaaDoor
open Go.RowKit
/-- A seal as a value. -/
abbrev sv (s : Bk.Sl) : Value := .agg #[iv s.1, tx s.2]
end Go.Proofs.YtflmfbcjmjlkbaaDoor
namespace Go.Proofs.YtflmfbcjmjlkbaaDoor
open Go.RowKit
theorem seal_one (l : List Bk.Sl) : ∀ u ∈ seals l, u.oneCell' = true := by
  intro u hu
  unfold seals at hu
  obtain ⟨s, _, hs⟩ := List.mem_flatMap.1 hu
  simp only [List.mem_cons, List.not_mem_nil, or_false] at hs
  rcases hs with rfl | rfl <;> rfl
theorem BookAt.own {w : World} {base : Nat} {v : Value} {l : List Bk.Sl} (h : w.ownsRow base 60 2 v l.length (seals l)) : BookAt w v l := by
  rcases h.2 with ⟨hv, h0⟩ | ⟨g, cap, cur, hv, _, _, h1, h2, _, _⟩
  · exact .inl ⟨none, hv, List.length_eq_zero_iff.1 h0⟩
  · refine .inr ⟨g, 0, cap, hv, h1, h2, fun k hk => ?_⟩
    obtain ⟨s1, s2⟩ := seals_at l k hk
    have c1 := h.cells (by rw [hv]; rfl) _ _ s1
    have c2 := h.cells (by rw [hv]; rfl) _ _ s2
    have ha : ∀ j, (⟨g, 0, none⟩ : Addr).add j = ⟨g, 0 + j, none⟩ := fun j => by unfold Addr.add; split <;> simp_all
    rw [ha] at c1 c2
    exact ⟨c1, c2⟩
end Go.Proofs.YtflmfbcjmjlkbaaDoor
namespace Go.Proofs.YtflmfbcjmjlkbaaDoor
open Go.RowKit
/-- Where a seal belongs. -/
def idxN (s : Bk.Sl) : List Bk.Sl → Nat
  | [] => 0
  | t :: l => if Bk.ahead s t then 0 else idxN s l + 1
theorem idxN_le (s : Bk.Sl) (l : List Bk.Sl) : idxN s l ≤ l.length := by
  induction l with
  | nil => simp [idxN]
  | cons t l ih => rw [idxN]; split <;> simp; omega
theorem ins_idx (s : Bk.Sl) (l : List Bk.Sl) : Bk.ins s l = l.take (idxN s l) ++ s :: l.drop (idxN s l) := by
  induction l with
  | nil => rfl
  | cons t l ih =>
    rw [Bk.ins, idxN]
    split
    · simp
    · simp [ih]
theorem idxN_at (s : Bk.Sl) (l : List Bk.Sl) (k : Nat) (hk : k < l.length) (h : Bk.ahead s l[k] = true) (hp : ∀ j (hj : j < k), Bk.ahead s (l[j]'(by omega)) = false) : idxN s l = k := by
  induction l generalizing k with
  | nil => simp at hk
  | cons t l ih =>
    rw [idxN]
    cases k with
    | zero => rw [if_pos (by simpa using h)]
    | succ k =>
      have h0 := hp 0 (by omega)
      rw [if_neg (by simpa using h0), ih k (by simpa using hk) (by simpa using h) (fun j hj => hp (j + 1) (by omega))]
theorem idxN_none (s : Bk.Sl) (l : List Bk.Sl) (hp : ∀ j (hj : j < l.length), Bk.ahead s l[j] = false) : idxN s l = l.length := by
  induction l with
  | nil => rfl
  | cons t l ih =>
    have h0 := hp 0 (by simp)
    rw [idxN, if_neg (by simpa using h0), ih (fun j hj => hp (j + 1) (by simp; omega))]
    simp
end Go.Proofs.YtflmfbcjmjlkbaaDoor
namespace Go.Proofs.YtflmfbcjmjlkbaaDoor
open Go.RowKit
theorem bput_same (l : List Bk.Sl) (s : Bk.Sl) (h : Bk.inR s = false ∨ Bk.has l s = true) : Bk.put l s = l := by
  unfold Bk.put
  rcases h with h | h <;> simp [h]
theorem bput_new (l : List Bk.Sl) (s : Bk.Sl) (h1 : Bk.inR s = true) (h2 : Bk.has l s = false) : Bk.put l s = Bk.ins s l := by
  unfold Bk.put
  simp [h1, h2]
end Go.Proofs.YtflmfbcjmjlkbaaDoor
namespace Go.Proofs.YtflmfbcjmjlkbaaDoor
open Go.RowKit
theorem seals_app (a b : List Bk.Sl) : seals (a ++ b) = seals a ++ seals b := by
  unfold seals; rw [List.flatMap_append]
theorem seals_cons (s : Bk.Sl) (l : List Bk.Sl) : seals (s :: l) = iv s.1 :: tx s.2 :: seals l := rfl
end Go.Proofs.YtflmfbcjmjlkbaaDoor
namespace Go.Proofs.YtflmfbcjmjlkbaaDoor
open Go.RowKit
set_option maxHeartbeats 2000000 in
theorem rput_same (v : Value) (l : List Bk.Sl) (s : Bk.Sl) (w : World) (hv : BookAt w v l) (hl : l.length ≤ 140737488351232) (h : Bk.has l s = true ∨ (Bk.has l s = false ∧ Bk.inR s = false)) :
    Calls Tryd.prog 27 #[v, sv s] w fun e w' => e = .returned v ∧ Below w.heap.size w w' := by
  obtain ⟨x, t⟩ := s
  simp only [sv, iv]
  have g0 : Below w.heap.size w (w.alloc (.cells #[.int .i64 x, tx t] 60)) := (Below.refl _ _).alloc (Nat.le_refl _) _
  have q0 : (w.alloc (.cells #[.int .i64 x, tx t] 60)).cell? ⟨w.heap.size, 0, none⟩ = some (.int .i64 x) := by simp
  have HV := Lib.hid (hv.below g0)
  have Q0 := Lib.hid q0
  have GR := Lib.hid g0
  clear hv q0 g0
  rcases h with h | ⟨h, hr⟩
  · have HH := Lib.hid h
    clear h
    go_enter Tryd.func27, Tryd.ntmps27
    go_wp2_with fail
    refine (rbhas_eq (s := (x, t)) HH.out _ HV.out.flat hl).mono ?_
    rintro e w1 ⟨rfl, h1⟩
    have g1 := GR.out.trans (h1.mono (by simp))
    clear h1
    go_wp2_with fail
    go_ret
    exact ⟨rfl, g1⟩
  · have HH := Lib.hid h
    have hr' : ¬ (1 ≤ x ∧ x ≤ 64) := by simpa [Bk.inR] using hr
    clear h hr
    by_cases h1 : x < 1
    · have t1 : decide (x < 1) = true := by simpa using h1
      clear hr' h1
      go_enter Tryd.func27, Tryd.ntmps27
      go_wp2_with fail
      refine (rbhas_eq (s := (x, t)) HH.out _ HV.out.flat hl).mono ?_
      rintro e w1 ⟨rfl, h1⟩
      have r0 := below_cell h1 Q0.out
      have g1 := GR.out.trans (h1.mono (by simp))
      clear h1
      go_wp2_with fail
      go_ret
      exact ⟨rfl, g1⟩
    · have t1 : decide (x < 1) = false := by simpa using h1
      have t2 : decide (64 < x) = true := by simp; omega
      clear hr' h1
      go_enter Tryd.func27, Tryd.ntmps27
      go_wp2_with fail
      refine (rbhas_eq (s := (x, t)) HH.out _ HV.out.flat hl).mono ?_
      rintro e w1 ⟨rfl, h1⟩
      have r0 := below_cell h1 Q0.out
      have g1 := GR.out.trans (h1.mono (by simp))
      clear h1
      go_wp2_with fail
      go_ret
      exact ⟨rfl, g1⟩
end Go.Proofs.YtflmfbcjmjlkbaaDoor
namespace Go.Proofs.YtflmfbcjmjlkbaaDoor
open Go.RowKit
theorem BookAt.own' {w : World} {base n : Nat} {v : Value} {vs : List Value} {l : List Bk.Sl} (h : w.ownsRow base 60 2 v n vs) (e1 : vs = seals l) (e2 : n = l.length) : BookAt w v l := by subst e1 e2; exact .own h
theorem seals_nil : seals [] = [] := rfl
theorem new_sl (W : World) (x : Int) (t : List UInt8) : ∀ j u, [Value.int .i64 x, tx t][j]? = some u → (W.alloc (.cells #[.int .i64 x, tx t] 60)).cell? ((⟨W.heap.size, 0, none⟩ : Addr).add j) = some u := by
  intro j u h
  have ha : (⟨W.heap.size, 0, none⟩ : Addr).add j = ⟨W.heap.size, j, none⟩ := by unfold Addr.add; split <;> simp_all
  rw [ha, World.cell?_alloc_at _ _ _ _ rfl]
  simpa using h
theorem new_sl2 (W : World) (o : Obj) (x : Int) (t : List UInt8) : ∀ j u, [Value.int .i64 x, tx t][j]? = some u → ((W.alloc o).alloc (.cells #[.int .i64 x, tx t] 60)).cell? ((⟨W.heap.size + 1, 0, none⟩ : Addr).add j) = some u := by
  have h := new_sl (W.alloc o) x t
  have e : (W.alloc o).heap.size = W.heap.size + 1 := by simp
  rw [e] at h
  exact h
theorem src_rows {w : World} {b off K : Nat} {l : List Bk.Sl} (hK : K ≤ l.length) (hc : ∀ k (h : k < l.length), w.cell? ⟨b, off + k * 2, none⟩ = some (iv l[k].1) ∧ w.cell? ⟨b, off + k * 2 + 1, none⟩ = some (tx l[k].2)) :
    ∀ k (h : k < (l.drop K).length), w.cell? ⟨b, off + K * 2 + k * 2, none⟩ = some (iv (l.drop K)[k].1) ∧ w.cell? ⟨b, off + K * 2 + k * 2 + 1, none⟩ = some (tx (l.drop K)[k].2) := by
  intro k hk
  rw [List.length_drop] at hk
  obtain ⟨c1, c2⟩ := hc (K + k) (by omega)
  have e : off + K * 2 + k * 2 = off + (K + k) * 2 := by omega
  rw [List.getElem_drop, e]
  exact ⟨c1, c2⟩
set_option maxHeartbeats 4000000 in
set_option maxRecDepth 100000 in
theorem rbput_some (b off cap : Nat) (l : List Bk.Sl) (x : Int) (t : List UInt8) (w : World) (hle : l.length ≤ cap) (hcap : cap ≤ 9223372036854775807)
    (hc : ∀ k (h : k < l.length), w.cell? ⟨b, off + k * 2, none⟩ = some (iv l[k].1) ∧ w.cell? ⟨b, off + k * 2 + 1, none⟩ = some (tx l[k].2))
    (hl : l.length ≤ 5864062014804) (ht : t.length ≤ 140737488351232) (hlt : ∀ s ∈ l, s.2.length ≤ 140737488351232) (h : Bk.inR (x, t) = true) (hh : Bk.has l (x, t) = false) :
    Calls Tryd.prog 27 #[.slice (some ⟨b, off, none⟩) l.length cap, sv (x, t)] w fun e w' => ∃ u, e = .returned u ∧ BookAt w' u (Bk.ins (x, t) l) ∧ Below w.heap.size w w' := by
  have hv : BookAt w (.slice (some ⟨b, off, none⟩) l.length cap) l := .inr ⟨b, off, cap, rfl, hle, hcap, hc⟩
  have HLT := Lib.hid hlt
  have HC0 := Lib.hid hc
  clear hc hlt
  obtain ⟨i0, hi, hz0, hz1, hz2⟩ := info_parts info_sl
  obtain ⟨C, hC⟩ : ∃ C, w.heap.size = C := ⟨_, rfl⟩
  obtain ⟨w0, hw0⟩ : ∃ w0, w.alloc (.cells #[.int .i64 x, tx t] 60) = w0 := ⟨_, rfl⟩
  have g0 : Below w.heap.size w w0 := by rw [← hw0]; exact (Below.refl _ _).alloc (Nat.le_refl _) _
  have GR := Lib.hid g0
  have HV := Lib.hid (hv.below g0)
  have B0 := Lib.hid (show w0.cell? ⟨C, 0, none⟩ = some (.int .i64 x) by rw [← hw0, ← hC]; simp)
  have B1 := Lib.hid (show w0.cell? ⟨C, 1, none⟩ = some (tx t) by rw [← hw0, ← hC]; simp)
  have HH := Lib.hid hh
  have hr1 : decide (x < 1) = false := by simp only [Bk.inR, decide_eq_true_iff] at h; rw [decide_eq_false_iff_not]; omega
  have hr2 : decide (64 < x) = false := by simp only [Bk.inR, decide_eq_true_iff] at h; rw [decide_eq_false_iff_not]; omega
  clear g0 hv hh h
  simp only [sv, iv]
  have z0 := B0.out
  have z1 := B1.out
  go_enter Tryd.func27, Tryd.ntmps27
  go_wp2_with fail
  clear hw0 z0 z1
  refine (rbhas_eq (s := (x, t)) HH.out _ HV.out.flat (by omega)).mono ?_
  rintro e w1 ⟨rfl, h1⟩
  have r0 := below_cell h1 B0.out
  have HB1 := Lib.hid h1
  clear h1
  go_wp2_with fail
  clear hr1 hr2 r0
  have HC := Lib.hid (fun k (hk : k < l.length) => (⟨below_cell GR.out (HC0.out k hk).1, below_cell GR.out (HC0.out k hk).2⟩ : w0.cell? ⟨b, off + k * 2, none⟩ = some (iv l[k].1) ∧ w0.cell? ⟨b, off + k * 2 + 1, none⟩ = some (tx l[k].2)))
  have HINS0 := Lib.hid (ins_idx (x, t) l)
  clear HC0 HV
  go_loopw [6] (fun i wr => ∃ k : Nat, i = .int .i64 k ∧ k ≤ l.length ∧ (∀ j (hj : j < l.length), j < k → Bk.ahead (x, t) l[j] = false) ∧ Below w0.heap.size w0 wr) (fun i _ => l.length - (intOf i).toNat)
  case atStart => exact ⟨0, rfl, by omega, fun _ _ h => absurd h (by omega), HB1.out⟩
  case round =>
    obtain ⟨k, rfl, hk, hn, hb⟩ := hrel
    have HN := Lib.hid hn
    have HB := Lib.hid hb
    clear hn hb HB1
    by_cases hlk : k < l.length
    · obtain ⟨c1', c2'⟩ := HC.out k hlk
      have c1 := below_cell HB.out c1'
      have c2 := below_cell HB.out c2'
      have b1 := below_cell HB.out B0.out
      have b2 := below_cell HB.out B1.out
      clear c1' c2'
      have HX := Lib.hid fun (hr : Bk.ahead (x, t) l[k] = false) => (show ∀ j (hj : j < l.length), j < k + 1 → Bk.ahead (x, t) l[j] = false from fun j hj hjk => by
        by_cases e : j = k
        · subst e; exact hr
        · exact HN.out j hj (by omega))
      have HY := Lib.hid fun (hr : Bk.ahead (x, t) l[k] = true) => (show idxN (x, t) l = k from idxN_at _ l k hlk hr (fun j hj => HN.out j (by omega) hj))
      have hly := HLT.out l[k] (List.getElem_mem hlk)
      obtain ⟨y, hy⟩ : ∃ y, l[k] = y := ⟨_, rfl⟩
      simp only [hy] at c1 c2 HX HY hly
      clear hy
      have hah := fun W => rahead_any (x, t) y ht hly W
      obtain ⟨x', t'⟩ := y
      simp only [iv] at c1 c2 hah
      have hS : (fun w' : World => w'.cell? ⟨b, off + k * 2, none⟩ = some (.int .i64 x') ∧ w'.cell? ⟨b, off + k * 2 + 1, none⟩ = some (tx t') ∧ w'.cell? ⟨C, 0, none⟩ = some (.int .i64 x) ∧ w'.cell? ⟨C, 1, none⟩ = some (tx t) ∧ Below w0.heap.size w0 w') wr := ⟨c1, c2, b1, b2, HB.out⟩
      have hkp := Lib.hid (show ∀ A1 A2 : World, (fun w' : World => w'.cell? ⟨b, off + k * 2, none⟩ = some (.int .i64 x') ∧ w'.cell? ⟨b, off + k * 2 + 1, none⟩ = some (tx t') ∧ w'.cell? ⟨C, 0, none⟩ = some (.int .i64 x) ∧ w'.cell? ⟨C, 1, none⟩ = some (tx t) ∧ Below w0.heap.size w0 w') A1 → Below A1.heap.size A1 A2 → (fun w' : World => w'.cell? ⟨b, off + k * 2, none⟩ = some (.int .i64 x') ∧ w'.cell? ⟨b, off + k * 2 + 1, none⟩ = some (tx t') ∧ w'.cell? ⟨C, 0, none⟩ = some (.int .i64 x) ∧ w'.cell? ⟨C, 1, none⟩ = some (tx t) ∧ Below w0.heap.size w0 w') A2 from fun A1 A2 ⟨k0, k1, k2, k3, kb⟩ h => ⟨below_cell h k0, below_cell h k1, below_cell h k2, below_cell h k3, grow_trans kb h⟩)
      have j1 : (k : Int) < (l.length : Int) := by omega
      have j2 : (0 : Int) ≤ (k : Int) := by omega
      have j3 : (k : Int).toNat = k := by omega
      cases hq : Bk.ahead (x, t) (x', t') with
      | false =>
        have HN2 := Lib.hid (HX.out hq)
        rw [hq] at hah
        clear hq HX HY b1 b2
        go_upto_region 5 with fail
        go_region_held3 (fun w' : World => w'.cell? ⟨b, off + k * 2, none⟩ = some (.int .i64 x') ∧ w'.cell? ⟨b, off + k * 2 + 1, none⟩ = some (tx t') ∧ w'.cell? ⟨C, 0, none⟩ = some (.int .i64 x) ∧ w'.cell? ⟨C, 1, none⟩ = some (tx t) ∧ Below w0.heap.size w0 w')
          (first | assumption | exact hkp.out _ _ hS (Below.drew (Below.refl _ _)) | exact hkp.out _ _ (by assumption) ((Below.refl _ _).alloc (Nat.le_refl _) _))
          (first
            | (go_at_call 50; refine (keepB (fun w' : World => w'.cell? ⟨b, off + k * 2, none⟩ = some (.int .i64 x') ∧ w'.cell? ⟨b, off + k * 2 + 1, none⟩ = some (tx t') ∧ w'.cell? ⟨C, 0, none⟩ = some (.int .i64 x) ∧ w'.cell? ⟨C, 1, none⟩ = some (tx t) ∧ Below w0.heap.size w0 w') hkp.out (hah _) (by assumption)).mono ?_; rintro e w9 ⟨rfl, kS⟩))
        all_goals go_wp2
        all_goals go_roundw
        all_goals first
          | exact ⟨k + 1, by go_num, hlk, HN2.out, (show (fun w' : World => w'.cell? ⟨b, off + k * 2, none⟩ = some (.int .i64 x') ∧ w'.cell? ⟨b, off + k * 2 + 1, none⟩ = some (tx t') ∧ w'.cell? ⟨C, 0, none⟩ = some (.int .i64 x) ∧ w'.cell? ⟨C, 1, none⟩ = some (tx t) ∧ Below w0.heap.size w0 w') _ by assumption).2.2.2.2⟩
          | (simp [intOf]; omega)
      | true =>
        have hidx := HY.out hq
        have HINS := Lib.hid (show Bk.ins (x, t) l = l.take k ++ (x, t) :: l.drop k by rw [HINS0.out, hidx])
        rw [hq] at hah
        clear hq HX HY b1 b2 hidx HINS0 HN
        go_upto_region 5 with fail
        go_region_held3 (fun w' : World => w'.cell? ⟨b, off + k * 2, none⟩ = some (.int .i64 x') ∧ w'.cell? ⟨b, off + k * 2 + 1, none⟩ = some (tx t') ∧ w'.cell? ⟨C, 0, none⟩ = some (.int .i64 x) ∧ w'.cell? ⟨C, 1, none⟩ = some (tx t) ∧ Below w0.heap.size w0 w')
          (first | assumption | exact hkp.out _ _ hS (Below.drew (Below.refl _ _)) | exact hkp.out _ _ (by assumption) ((Below.refl _ _).alloc (Nat.le_refl _) _))
          (first
            | (go_at_call 50; refine (keepB (fun w' : World => w'.cell? ⟨b, off + k * 2, none⟩ = some (.int .i64 x') ∧ w'.cell? ⟨b, off + k * 2 + 1, none⟩ = some (tx t') ∧ w'.cell? ⟨C, 0, none⟩ = some (.int .i64 x) ∧ w'.cell? ⟨C, 1, none⟩ = some (tx t) ∧ Below w0.heap.size w0 w') hkp.out (hah _) (by assumption)).mono ?_; rintro e w9 ⟨rfl, kS⟩))
        have HB4 := Lib.hid (show (fun w' : World => w'.cell? ⟨b, off + k * 2, none⟩ = some (.int .i64 x') ∧ w'.cell? ⟨b, off + k * 2 + 1, none⟩ = some (tx t') ∧ w'.cell? ⟨C, 0, none⟩ = some (.int .i64 x) ∧ w'.cell? ⟨C, 1, none⟩ = some (tx t) ∧ Below w0.heap.size w0 w') _ by assumption).2.2.2.2
        clear hS hkp c1 c2
        have hsz4 := HB4.out.size
        have htk4 : ∀ j (h : j < (l.take k).length), w9.cell? ⟨b, off + j * 2, none⟩ = some (iv (l.take k)[j].1) ∧ w9.cell? ⟨b, off + j * 2 + 1, none⟩ = some (tx (l.take k)[j].2) := by
          intro j hj
          rw [List.length_take] at hj
          rw [List.getElem_take]
          exact ⟨below_cell HB4.out (HC.out j (by omega)).1, below_cell HB4.out (HC.out j (by omega)).2⟩
        have hK : k ≤ l.length := by omega
        have hK1 : (k : Int) ≤ (l.length : Int) := by omega
        have hK2 : (0 : Int) ≤ (k : Int) := by omega
        have hK3 : (k : Int) ≤ (cap : Int) := by omega
        have hK4 : (k : Int) < (cap : Int) := by omega
        have HLIT := Lib.hid (World.ownsRow_lit (base := w0.heap.size) (e := 60) (size := 2) w9 #[] 0 hsz4 (by decide) rfl)
        have hgl : Below w9.heap.size w9 (w9.alloc (.cells #[] 60)) := (Below.refl _ _).alloc (Nat.le_refl _) _
        have hszl : w0.heap.size ≤ (w9.alloc (.cells #[] 60)).heap.size := by simp; omega
        have HBL := Lib.hid (HB4.out.alloc hsz4 (.cells #[] 60))
        have HS1 := Lib.hid (fun j u hj => below_cell hgl (clone_row htk4 j u hj))
        have hl1 := Lib.hid (show (seals (l.take k)).length = k * 2 by rw [seals_len, List.length_take]; omega)
        clear hgl htk4
        go_wp2_with (first
          | (at_builtin; refine wpList_append_own _ rfl _ _ 22 rfl w0.heap.size 60 i0 (.agg #[.int .i64 0, .string ⟨#[]⟩]) 2 24 Tryd.underlying22 hi hz0 hz1 hz2 rfl (by decide) _ 0 [] rfl HLIT.out ⟨b, off, none⟩ k cap (seals (l.take k)) rfl hl1.out HS1.out (seal_one _) (by unfold maxLen; omega) (by omega) (by exact hszl) ?_; intro v5 w5 hown5 hg _; have hb5 := HBL.out.grown hg (by exact hszl) (fun k hk => (HLIT.out.lt k hk).1); have HO5 := Lib.hid hown5; have HB5 := Lib.hid hb5; have hsz5 := hb5.size; clear hown5 hg hb5; have r0 := below_cell HB5.out B0.out; have r1 := below_cell HB5.out B1.out; have HNW := Lib.hid (new_sl w5 x t))
          | (at_builtin; refine wpList_append_own _ rfl _ _ 22 rfl w0.heap.size 60 i0 (.agg #[.int .i64 0, .string ⟨#[]⟩]) 2 24 Tryd.underlying22 hi hz0 hz1 hz2 rfl (by decide) _ (0 + k) ([] ++ seals (l.take k)) rfl (HO5.out.alloc _) ⟨w5.heap.size, 0, none⟩ 1 1 [.int .i64 x, tx t] rfl rfl HNW.out (by intro u hu; simp at hu; rcases hu with rfl | rfl <;> rfl) (by unfold maxLen; omega) (by omega) (by simp; omega) ?_; intro v6 w6 hown6 hg _; have hb6 := (HB5.out.alloc hsz5 _).grown hg (by simp; omega) (fun k hk => (HO5.out.lt k hk).1); have HO6 := Lib.hid hown6; have HB6 := Lib.hid hb6; have hsz6 := hb6.size; clear hown6 hg hb6; have HS3 := Lib.hid (clone_row (src_rows hK (fun k hk => ⟨below_cell HB6.out (HC.out k hk).1, below_cell HB6.out (HC.out k hk).2⟩))); have hl3 := Lib.hid (show (seals (l.drop k)).length = (l.length - k) * 2 by rw [seals_len, List.length_drop]))
          | (at_builtin; refine wpList_append_own _ rfl _ _ 22 rfl w0.heap.size 60 i0 (.agg #[.int .i64 0, .string ⟨#[]⟩]) 2 24 Tryd.underlying22 hi hz0 hz1 hz2 rfl (by decide) _ ((0 + k) + 1) (([] ++ seals (l.take k)) ++ [.int .i64 x, tx t]) rfl HO6.out ⟨b, off + k * 2, none⟩ (l.length - k) (cap - k) (seals (l.drop k)) rfl hl3.out HS3.out (seal_one _) (by unfold maxLen; omega) (by omega) (by exact hsz6) ?_; intro v7 w7 hown7 hg _; have hb7 := HB6.out.grown hg (by exact hsz6) (fun k hk => (HO6.out.lt k hk).1); have HO7 := Lib.hid hown7; have HB7 := Lib.hid hb7; have hsz7 := hb7.size; clear hown7 hg hb7))
        go_wp2
        go_ret
        refine ⟨_, rfl, ?_, by first | exact GR.out.trans (HB7.out.mono GR.out.size) | (rw [← hC]; exact GR.out.trans (HB7.out.mono GR.out.size))⟩
        exact BookAt.own' HO7.out (by rw [HINS.out]; simp [seals_app, seals_cons, iv]) (by rw [HINS.out]; simp <;> omega)
    · obtain rfl : k = l.length := by omega
      have hidx := idxN_none (x, t) l (fun j hj => HN.out j hj hj)
      have HINS := Lib.hid (show Bk.ins (x, t) l = l.take l.length ++ (x, t) :: l.drop l.length by rw [HINS0.out, hidx])
      clear hidx HINS0 HN hlk
      go_upto_region 5 with fail
      go_quiet (fail)
      generalize hw9 : World.drewN wr _ = w9
      have HB4 := Lib.hid (show Below w0.heap.size w0 w9 by rw [← hw9]; exact grow_trans HB.out (grow_draws _ _))
      clear hw9
      have hsz4 := HB4.out.size
      have htk4 : ∀ j (h : j < (l.take l.length).length), w9.cell? ⟨b, off + j * 2, none⟩ = some (iv (l.take l.length)[j].1) ∧ w9.cell? ⟨b, off + j * 2 + 1, none⟩ = some (tx (l.take l.length)[j].2) := by
        intro j hj
        rw [List.length_take] at hj
        rw [List.getElem_take]
        exact ⟨below_cell HB4.out (HC.out j (by omega)).1, below_cell HB4.out (HC.out j (by omega)).2⟩
      have hK : l.length ≤ l.length := by omega
      have hK1 : (l.length : Int) ≤ (l.length : Int) := by omega
      have hK2 : (0 : Int) ≤ (l.length : Int) := by omega
      have hK3 : (l.length : Int) ≤ (cap : Int) := by omega
      by_cases hcc : l.length = cap
      · have hKl : l.length = l.length := by omega
        have HIN2 := Lib.hid (show Bk.ins (x, t) l = l.take l.length ++ [(x, t)] by rw [HINS.out, hKl, List.take_length, List.drop_length])
        subst hcc
        clear hKl HINS
        have HLIT := Lib.hid (World.ownsRow_lit (base := w0.heap.size) (e := 60) (size := 2) w9 #[] 0 hsz4 (by decide) rfl)
        have hgl : Below w9.heap.size w9 (w9.alloc (.cells #[] 60)) := (Below.refl _ _).alloc (Nat.le_refl _) _
        have hszl : w0.heap.size ≤ (w9.alloc (.cells #[] 60)).heap.size := by simp; omega
        have HBL := Lib.hid (HB4.out.alloc hsz4 (.cells #[] 60))
        have HS1 := Lib.hid (fun j u hj => below_cell hgl (clone_row htk4 j u hj))
        have hl1 := Lib.hid (show (seals (l.take l.length)).length = l.length * 2 by rw [seals_len, List.length_take]; omega)
        clear hgl htk4
        go_wp2_with (first
          | (at_builtin; refine wpList_append_own _ rfl _ _ 22 rfl w0.heap.size 60 i0 (.agg #[.int .i64 0, .string ⟨#[]⟩]) 2 24 Tryd.underlying22 hi hz0 hz1 hz2 rfl (by decide) _ 0 [] rfl HLIT.out ⟨b, off, none⟩ l.length l.length (seals (l.take l.length)) rfl hl1.out HS1.out (seal_one _) (by unfold maxLen; omega) (by omega) (by exact hszl) ?_; intro v5 w5 hown5 hg _; have hb5 := HBL.out.grown hg (by exact hszl) (fun k hk => (HLIT.out.lt k hk).1); have HO5 := Lib.hid hown5; have HB5 := Lib.hid hb5; have hsz5 := hb5.size; clear hown5 hg hb5; have r0 := below_cell HB5.out B0.out; have r1 := below_cell HB5.out B1.out; have HNW := Lib.hid (new_sl w5 x t))
          | (at_builtin; refine wpList_append_own _ rfl _ _ 22 rfl w0.heap.size 60 i0 (.agg #[.int .i64 0, .string ⟨#[]⟩]) 2 24 Tryd.underlying22 hi hz0 hz1 hz2 rfl (by decide) _ (0 + l.length) ([] ++ seals (l.take l.length)) rfl (HO5.out.alloc _) ⟨w5.heap.size, 0, none⟩ 1 1 [.int .i64 x, tx t] rfl rfl HNW.out (by intro u hu; simp at hu; rcases hu with rfl | rfl <;> rfl) (by unfold maxLen; omega) (by omega) (by simp; omega) ?_; intro v6 w6 hown6 hg _; have hb6 := (HB5.out.alloc hsz5 _).grown hg (by simp; omega) (fun k hk => (HO5.out.lt k hk).1); have HO6 := Lib.hid hown6; have HB6 := Lib.hid hb6; have hsz6 := hb6.size; clear hown6 hg hb6)
          | (at_builtin; refine wpList_append_own _ rfl _ _ 22 rfl w0.heap.size 60 i0 (.agg #[.int .i64 0, .string ⟨#[]⟩]) 2 24 Tryd.underlying22 hi hz0 hz1 hz2 rfl (by decide) _ ((0 + l.length) + 1) (([] ++ seals (l.take l.length)) ++ [.int .i64 x, tx t]) rfl HO6.out ⟨b, off, none⟩ 0 0 [] rfl rfl (fun j u h => absurd h (by simp)) (fun u h => absurd h (by simp)) (by unfold maxLen; omega) (by omega) (by exact hsz6) ?_; intro v7 w7 hown7 hg _; have hb7 := HB6.out.grown hg (by exact hsz6) (fun k hk => (HO6.out.lt k hk).1); have HO7 := Lib.hid hown7; have HB7 := Lib.hid hb7; have hsz7 := hb7.size; clear hown7 hg hb7))
        go_wp2
        go_ret
        refine ⟨_, rfl, ?_, by first | exact GR.out.trans (HB7.out.mono GR.out.size) | (rw [← hC]; exact GR.out.trans (HB7.out.mono GR.out.size))⟩
        exact BookAt.own' HO7.out (by rw [HIN2.out]; simp [seals_app, seals_cons, seals_nil, iv]) (by rw [HIN2.out]; simp)
      · have hK4 : (l.length : Int) < (cap : Int) := by omega
        have hd0 : l.drop l.length = [] := List.drop_length
        have HINS := Lib.hid (show Bk.ins (x, t) l = l.take l.length ++ (x, t) :: [] by rw [HINS.out, hd0])
        clear hd0
        have HLIT := Lib.hid (World.ownsRow_lit (base := w0.heap.size) (e := 60) (size := 2) w9 #[] 0 hsz4 (by decide) rfl)
        have hgl : Below w9.heap.size w9 (w9.alloc (.cells #[] 60)) := (Below.refl _ _).alloc (Nat.le_refl _) _
        have hszl : w0.heap.size ≤ (w9.alloc (.cells #[] 60)).heap.size := by simp; omega
        have HBL := Lib.hid (HB4.out.alloc hsz4 (.cells #[] 60))
        have HS1 := Lib.hid (fun j u hj => below_cell hgl (clone_row htk4 j u hj))
        have hl1 := Lib.hid (show (seals (l.take l.length)).length = l.length * 2 by rw [seals_len, List.length_take]; omega)
        clear hgl htk4
        go_wp2_with (first
          | (at_builtin; refine wpList_append_own _ rfl _ _ 22 rfl w0.heap.size 60 i0 (.agg #[.int .i64 0, .string ⟨#[]⟩]) 2 24 Tryd.underlying22 hi hz0 hz1 hz2 rfl (by decide) _ 0 [] rfl HLIT.out ⟨b, off, none⟩ l.length cap (seals (l.take l.length)) rfl hl1.out HS1.out (seal_one _) (by unfold maxLen; omega) (by omega) (by exact hszl) ?_; intro v5 w5 hown5 hg _; have hb5 := HBL.out.grown hg (by exact hszl) (fun k hk => (HLIT.out.lt k hk).1); have HO5 := Lib.hid hown5; have HB5 := Lib.hid hb5; have hsz5 := hb5.size; clear hown5 hg hb5; have r0 := below_cell HB5.out B0.out; have r1 := below_cell HB5.out B1.out; have HNW := Lib.hid (new_sl w5 x t))
          | (at_builtin; refine wpList_append_own _ rfl _ _ 22 rfl w0.heap.size 60 i0 (.agg #[.int .i64 0, .string ⟨#[]⟩]) 2 24 Tryd.underlying22 hi hz0 hz1 hz2 rfl (by decide) _ (0 + l.length) ([] ++ seals (l.take l.length)) rfl (HO5.out.alloc _) ⟨w5.heap.size, 0, none⟩ 1 1 [.int .i64 x, tx t] rfl rfl HNW.out (by intro u hu; simp at hu; rcases hu with rfl | rfl <;> rfl) (by unfold maxLen; omega) (by omega) (by simp; omega) ?_; intro v6 w6 hown6 hg _; have hb6 := (HB5.out.alloc hsz5 _).grown hg (by simp; omega) (fun k hk => (HO5.out.lt k hk).1); have HO6 := Lib.hid hown6; have HB6 := Lib.hid hb6; have hsz6 := hb6.size; clear hown6 hg hb6)
          | (at_builtin; refine wpList_append_own _ rfl _ _ 22 rfl w0.heap.size 60 i0 (.agg #[.int .i64 0, .string ⟨#[]⟩]) 2 24 Tryd.underlying22 hi hz0 hz1 hz2 rfl (by decide) _ ((0 + l.length) + 1) (([] ++ seals (l.take l.length)) ++ [.int .i64 x, tx t]) rfl HO6.out ⟨b, off + l.length * 2, none⟩ 0 (cap - l.length) [] rfl rfl (fun j u h => absurd h (by simp)) (fun u h => absurd h (by simp)) (by unfold maxLen; omega) (by omega) (by exact hsz6) ?_; intro v7 w7 hown7 hg _; have hb7 := HB6.out.grown hg (by exact hsz6) (fun k hk => (HO6.out.lt k hk).1); have HO7 := Lib.hid hown7; have HB7 := Lib.hid hb7; have hsz7 := hb7.size; clear hown7 hg hb7))
        go_wp2
        go_ret
        refine ⟨_, rfl, ?_, by first | exact GR.out.trans (HB7.out.mono GR.out.size) | (rw [← hC]; exact GR.out.trans (HB7.out.mono GR.out.size))⟩
        exact BookAt.own' HO7.out (by rw [HINS.out]; simp [seals_app, seals_cons, seals_nil, iv]) (by rw [HINS.out]; simp <;> omega)
set_option maxHeartbeats 4000000 in
theorem rbput_nil (x : Int) (t : List UInt8) (w : World) (h : Bk.inR (x, t) = true) (hh : Bk.has [] (x, t) = false) :
    Calls Tryd.prog 27 #[.slice none 0 0, sv (x, t)] w fun e w' => ∃ u, e = .returned u ∧ BookAt w' u [(x, t)] ∧ Below w.heap.size w w' := by
  have hv : BookAt w (.slice none 0 0) [] := .inl ⟨_, rfl, rfl⟩
  have HINS := Lib.hid (show [(x, t)] = ([] : List Bk.Sl) ++ (x, t) :: [] from rfl)
  obtain ⟨i0, hi, hz0, hz1, hz2⟩ := info_parts info_sl
  obtain ⟨C, hC⟩ : ∃ C, w.heap.size = C := ⟨_, rfl⟩
  obtain ⟨w0, hw0⟩ : ∃ w0, w.alloc (.cells #[.int .i64 x, tx t] 60) = w0 := ⟨_, rfl⟩
  have g0 : Below w.heap.size w w0 := by rw [← hw0]; exact (Below.refl _ _).alloc (Nat.le_refl _) _
  have GR := Lib.hid g0
  have HV := Lib.hid (hv.below g0)
  have B0 := Lib.hid (show w0.cell? ⟨C, 0, none⟩ = some (.int .i64 x) by rw [← hw0, ← hC]; simp)
  have B1 := Lib.hid (show w0.cell? ⟨C, 1, none⟩ = some (tx t) by rw [← hw0, ← hC]; simp)
  have HH := Lib.hid hh
  have hr1 : decide (x < 1) = false := by simp only [Bk.inR, decide_eq_true_iff] at h; rw [decide_eq_false_iff_not]; omega
  have hr2 : decide (64 < x) = false := by simp only [Bk.inR, decide_eq_true_iff] at h; rw [decide_eq_false_iff_not]; omega
  clear g0 hv hh h
  simp only [sv, iv]
  have z0 := B0.out
  have z1 := B1.out
  go_enter Tryd.func27, Tryd.ntmps27
  go_wp2_with fail
  clear hw0 z0 z1
  refine (rbhas_eq (s := (x, t)) HH.out _ HV.out.flat (by simp)).mono ?_
  rintro e w1 ⟨rfl, h1⟩
  have r0 := below_cell h1 B0.out
  have HB1 := Lib.hid h1
  clear h1
  go_wp2_with fail
  clear hr1 hr2 r0
  clear HV
  refine wp_loop_rounds 1 ?_
  rw [rounds_succ]
  go_upto_region 5 with fail
  go_quiet (fail)
  generalize hw9 : World.drewN w1 _ = w9
  have HB4 := Lib.hid (show Below w0.heap.size w0 w9 by rw [← hw9]; exact HB1.out.trans ((grow_draws _ _).mono HB1.out.size))
  clear hw9
  have hsz4 := HB4.out.size
  have HLIT := Lib.hid (World.ownsRow_lit (base := w0.heap.size) (e := 60) (size := 2) w9 #[] 0 hsz4 (by decide) rfl)
  have hgl : Below w9.heap.size w9 (w9.alloc (.cells #[] 60)) := (Below.refl _ _).alloc (Nat.le_refl _) _
  have hszl : w0.heap.size ≤ (w9.alloc (.cells #[] 60)).heap.size := by simp; omega
  have HBL := Lib.hid (HB4.out.alloc hsz4 (.cells #[] 60))
  go_wp2_with (first
    | (at_builtin; refine wpList_append_own_none rfl _ _ 22 rfl w0.heap.size 60 i0 2 Tryd.underlying22 hi _ _ _ rfl HLIT.out rfl ?_; have r0 := below_cell HBL.out B0.out; have r1 := below_cell HBL.out B1.out; have HNW := Lib.hid (new_sl2 w9 (.cells #[] 60) x t))
    | (at_builtin; refine wpList_append_own _ rfl _ _ 22 rfl w0.heap.size 60 i0 (.agg #[.int .i64 0, .string ⟨#[]⟩]) 2 24 Tryd.underlying22 hi hz0 hz1 hz2 rfl (by decide) _ 0 [] rfl (HLIT.out.alloc _) ⟨w9.heap.size + 1, 0, none⟩ 1 1 [.int .i64 x, tx t] rfl rfl HNW.out (by intro u hu; simp at hu; rcases hu with rfl | rfl <;> rfl) (by unfold maxLen; omega) (by omega) (by simp; omega) ?_; intro v6 w6 hown6 hg _; have hb6 := (HBL.out.alloc hszl _).grown hg (by simp; omega) (fun k hk => (HLIT.out.lt k hk).1); have HO6 := Lib.hid hown6; have HB6 := Lib.hid hb6; have hsz6 := hb6.size; clear hown6 hg hb6)
    | (at_builtin; refine wpList_append_own_none rfl _ _ 22 rfl w0.heap.size 60 i0 2 Tryd.underlying22 hi _ _ _ rfl HO6.out rfl ?_))
  go_wp2
  go_ret
  refine ⟨_, rfl, ?_, by first | exact GR.out.trans (HB6.out.mono GR.out.size) | (rw [← hC]; exact GR.out.trans (HB6.out.mono GR.out.size))⟩
  exact BookAt.own' HO6.out (by rw [HINS.out]; simp [seals_cons, seals_nil, iv]) (by rw [HINS.out]; simp <;> omega)
set_option maxHeartbeats 4000000 in
theorem rbput_ad (ad : Addr) (x : Int) (t : List UInt8) (w : World) (h : Bk.inR (x, t) = true) (hh : Bk.has [] (x, t) = false) :
    Calls Tryd.prog 27 #[.slice (some ad) 0 0, sv (x, t)] w fun e w' => ∃ u, e = .returned u ∧ BookAt w' u [(x, t)] ∧ Below w.heap.size w w' := by
  have hv : BookAt w (.slice (some ad) 0 0) [] := .inl ⟨_, rfl, rfl⟩
  have HINS := Lib.hid (show [(x, t)] = ([] : List Bk.Sl) ++ (x, t) :: [] from rfl)
  obtain ⟨i0, hi, hz0, hz1, hz2⟩ := info_parts info_sl
  obtain ⟨C, hC⟩ : ∃ C, w.heap.size = C := ⟨_, rfl⟩
  obtain ⟨w0, hw0⟩ : ∃ w0, w.alloc (.cells #[.int .i64 x, tx t] 60) = w0 := ⟨_, rfl⟩
  have g0 : Below w.heap.size w w0 := by rw [← hw0]; exact (Below.refl _ _).alloc (Nat.le_refl _) _
  have GR := Lib.hid g0
  have HV := Lib.hid (hv.below g0)
  have B0 := Lib.hid (show w0.cell? ⟨C, 0, none⟩ = some (.int .i64 x) by rw [← hw0, ← hC]; simp)
  have B1 := Lib.hid (show w0.cell? ⟨C, 1, none⟩ = some (tx t) by rw [← hw0, ← hC]; simp)
  have HH := Lib.hid hh
  have hr1 : decide (x < 1) = false := by simp only [Bk.inR, decide_eq_true_iff] at h; rw [decide_eq_false_iff_not]; omega
  have hr2 : decide (64 < x) = false := by simp only [Bk.inR, decide_eq_true_iff] at h; rw [decide_eq_false_iff_not]; omega
  clear g0 hv hh h
  simp only [sv, iv]
  have z0 := B0.out
  have z1 := B1.out
  go_enter Tryd.func27, Tryd.ntmps27
  go_wp2_with fail
  clear hw0 z0 z1
  refine (rbhas_eq (s := (x, t)) HH.out _ HV.out.flat (by simp)).mono ?_
  rintro e w1 ⟨rfl, h1⟩
  have r0 := below_cell h1 B0.out
  have HB1 := Lib.hid h1
  clear h1
  go_wp2_with fail
  clear hr1 hr2 r0
  clear HV
  refine wp_loop_rounds 1 ?_
  rw [rounds_succ]
  go_upto_region 5 with fail
  go_quiet (fail)
  generalize hw9 : World.drewN w1 _ = w9
  have HB4 := Lib.hid (show Below w0.heap.size w0 w9 by rw [← hw9]; exact HB1.out.trans ((grow_draws _ _).mono HB1.out.size))
  clear hw9
  have hsz4 := HB4.out.size
  have HLIT := Lib.hid (World.ownsRow_lit (base := w0.heap.size) (e := 60) (size := 2) w9 #[] 0 hsz4 (by decide) rfl)
  have hgl : Below w9.heap.size w9 (w9.alloc (.cells #[] 60)) := (Below.refl _ _).alloc (Nat.le_refl _) _
  have hszl : w0.heap.size ≤ (w9.alloc (.cells #[] 60)).heap.size := by simp; omega
  have HBL := Lib.hid (HB4.out.alloc hsz4 (.cells #[] 60))
  go_wp2_with (first
    | (at_builtin; refine wpList_append_own _ rfl _ _ 22 rfl w0.heap.size 60 i0 (.agg #[.int .i64 0, .string ⟨#[]⟩]) 2 24 Tryd.underlying22 hi hz0 hz1 hz2 rfl (by decide) _ 0 [] rfl HLIT.out ad 0 0 [] rfl rfl (fun j u h => absurd h (by simp)) (fun u h => absurd h (by simp)) (by unfold maxLen; omega) (by omega) (by exact hszl) ?_; intro v5 w5 hown5 hg _; have hb5 := HBL.out.grown hg (by exact hszl) (fun k hk => (HLIT.out.lt k hk).1); have HO5 := Lib.hid hown5; have HB5 := Lib.hid hb5; have hsz5 := hb5.size; clear hown5 hg hb5; have r0 := below_cell HB5.out B0.out; have r1 := below_cell HB5.out B1.out; have HNW := Lib.hid (new_sl w5 x t))
    | (at_builtin; refine wpList_append_own _ rfl _ _ 22 rfl w0.heap.size 60 i0 (.agg #[.int .i64 0, .string ⟨#[]⟩]) 2 24 Tryd.underlying22 hi hz0 hz1 hz2 rfl (by decide) _ (0 + 0) ([] ++ []) rfl (HO5.out.alloc _) ⟨w5.heap.size, 0, none⟩ 1 1 [.int .i64 x, tx t] rfl rfl HNW.out (by intro u hu; simp at hu; rcases hu with rfl | rfl <;> rfl) (by unfold maxLen; omega) (by omega) (by simp; omega) ?_; intro v6 w6 hown6 hg _; have hb6 := (HB5.out.alloc hsz5 _).grown hg (by simp; omega) (fun k hk => (HO5.out.lt k hk).1); have HO6 := Lib.hid hown6; have HB6 := Lib.hid hb6; have hsz6 := hb6.size; clear hown6 hg hb6)
    | (at_builtin; refine wpList_append_own _ rfl _ _ 22 rfl w0.heap.size 60 i0 (.agg #[.int .i64 0, .string ⟨#[]⟩]) 2 24 Tryd.underlying22 hi hz0 hz1 hz2 rfl (by decide) _ ((0 + 0) + 1) (([] ++ []) ++ [.int .i64 x, tx t]) rfl HO6.out ad 0 0 [] rfl rfl (fun j u h => absurd h (by simp)) (fun u h => absurd h (by simp)) (by unfold maxLen; omega) (by omega) (by exact hsz6) ?_; intro v7 w7 hown7 hg _; have hb7 := HB6.out.grown hg (by exact hsz6) (fun k hk => (HO6.out.lt k hk).1); have HO7 := Lib.hid hown7; have HB7 := Lib.hid hb7; have hsz7 := hb7.size; clear hown7 hg hb7))
  go_wp2
  go_ret
  refine ⟨_, rfl, ?_, by first | exact GR.out.trans (HB7.out.mono GR.out.size) | (rw [← hC]; exact GR.out.trans (HB7.out.mono GR.out.size))⟩
  exact BookAt.own' HO7.out (by rw [HINS.out]; simp [seals_cons, seals_nil, iv]) (by rw [HINS.out]; simp <;> omega)
end Go.Proofs.YtflmfbcjmjlkbaaDoor
namespace Go.Proofs.YtflmfbcjmjlkbaaDoor
open Go.RowKit Go.ChangeShapes Go.WideShapes Go.ChangeAt
/-- The document's Put, as a function of the book. -/
theorem rbput_any (v : Value) (l : List Bk.Sl) (s : Bk.Sl) (w : World) (hv : BookAt w v l) (hl : l.length ≤ 5864062014804) (ht : s.2.length ≤ 140737488351232) (hlt : ∀ s ∈ l, s.2.length ≤ 140737488351232) :
    Calls Tryd.prog 27 #[v, sv s] w fun e w' => ∃ u, e = .returned u ∧ BookAt w' u (Bk.put l s) ∧ Below w.heap.size w w' := by
  have old : Bk.put l s = l → (Bk.has l s = true ∨ (Bk.has l s = false ∧ Bk.inR s = false)) → Calls Tryd.prog 27 #[v, sv s] w fun e w' => ∃ u, e = .returned u ∧ BookAt w' u (Bk.put l s) ∧ Below w.heap.size w w' := by
    intro he h
    rw [he]
    exact (rput_same v l s w hv (by omega) h).mono fun e w' ⟨h1, h2⟩ => ⟨v, h1, hv.below h2, h2⟩
  cases h : Bk.has l s with
  | true => exact old (bput_same l s (.inr h)) (.inl h)
  | false =>
    cases hi : Bk.inR s with
    | false => exact old (bput_same l s (.inl hi)) (.inr ⟨h, hi⟩)
    | true =>
      rw [bput_new l s hi h]
      obtain ⟨x, t⟩ := s
      rcases hv with ⟨a, rfl, rfl⟩ | ⟨b, off, cap, rfl, h1, h2, hc⟩
      · cases a with
        | none => exact rbput_nil x t w hi h
        | some ad => exact rbput_ad ad x t w hi h
      · exact rbput_some b off cap l x t w h1 h2 hc hl ht hlt hi h
end Go.Proofs.YtflmfbcjmjlkbaaDoor
namespace Bk
theorem puts_len (l b : List Sl) : (puts b l).length ≤ b.length + l.length := by
  induction l generalizing b with
  | nil => simp [puts]
  | cons s l ih =>
    have h := ih (put b s)
    have h2 := put_len b s
    rw [puts, List.foldl_cons, ← puts, List.length_cons]
    split at h2 <;> omega
theorem puts_step (l b : List Sl) (k : Nat) (h : k < l.length) : puts b (l.take (k + 1)) = put (puts b (l.take k)) l[k] := by
  rw [puts, List.take_succ_eq_append_getElem h, List.foldl_append]; rfl
end Bk
namespace Go.Proofs.YtflmfbcjmjlkbaaDoor
open Go.RowKit Go.ChangeShapes Go.WideShapes Go.ChangeAt
theorem weights_mem {H : Type} {P : Program} {e : TypeId} {d : DataW H} {es : List (DataW H)} (hd : d ∈ es) {n : Nat} (hn : n ∈ d.weights P e) : n ∈ DataW.weightsAll P e es := by
  induction es with
  | nil => cases hd
  | cons x es ih =>
    rw [DataW.weightsAll, List.mem_append]
    rcases List.mem_cons.1 hd with rfl | hd
    · exact .inl hn
    · exact .inr (ih hd)
theorem trod_sealsC {H : Type} {enc : TypeId × Value → H} {W : World} {n : Nat} {v : Value} {y : DataW H × List MemPlace} (h : DataW.trod enc Tryd.prog W 0 (fun _ => true) true n 22 [v] = some y)
    (hsz : (DataW.weights Tryd.prog 22 y.1).all (· ≤ reachBytes) = true) :
    ∃ l, BookAt W v l ∧ l.length ≤ Rows.uptoBulk y.1 ∧ ∀ s ∈ l, s.2.length ≤ 140737488351232 := by
  obtain ⟨l, hv, hub, _⟩ := trod_seals Tryd.underlying22 h
  refine ⟨l, hv, hub, ?_⟩
  rcases Go.Deep.open_slice_pairs Tryd.underlying22 Tryd.underlying60 (by kernel_rfl) rfl rfl (by kernel_rfl) (by kernel_rfl) h with ⟨hv2, rfl⟩ | ⟨a, len, cap, m, k, V0, V1, D0, D1, P0, P1, hv2, _, hll, hcap, hm, rfl, hc⟩
  · cases hv2
    rcases hv with ⟨_, _, rfl⟩ | ⟨b, off, cap, e, _, _, _⟩
    · intro s hs; cases hs
    · cases e
  · cases hv2
    simp only [if_true] at hm
    subst hm
    rcases hv with ⟨_, _, rfl⟩ | ⟨b, off, cap', e, _, _, hcc⟩
    · intro s hs; cases hs
    · simp only [Value.slice.injEq, Option.some.injEq] at e
      obtain ⟨rfl, rfl, rfl⟩ := e
      intro s hs
      obtain ⟨i, hi, rfl⟩ := List.getElem_of_mem hs
      obtain ⟨_, h1, _, t1⟩ := hc i (by omega)
      obtain ⟨u, e1, e2⟩ := trod_tx Tryd.underlying9 t1
      have ha : ∀ j, (⟨b, off, none⟩ : Addr).add j = ⟨b, off + j, none⟩ := fun j => by unfold Addr.add; split <;> simp_all
      rw [ha, ← Nat.add_assoc, (hcc i hi).2, e1] at h1
      have hu : l[i].2 = u := by
        injection h1 with h1
        have := congrArg (fun v => match v with | Value.string b => b.data.toList | _ => []) h1
        simpa using this
      rw [hu]
      have hD : D1 i = .lit (.string u) := congrArg Prod.fst e2
      simp only [DataW.weights, Tryd.underlying22, List.all_cons, Bool.and_eq_true, List.all_append] at hsz
      have h3 := hsz.2.1
      rw [List.all_eq_true] at h3
      have h4 : u.length ∈ (DataW.agg [D0 i, D1 i] : DataW H).weights Tryd.prog 60 := by
        rw [hD]
        simp [DataW.weights, Tryd.underlying60, DataW.weightsEach]
      have h5 := h3 _ (weights_mem (List.mem_map.2 ⟨i, List.mem_range.2 hi, rfl⟩) h4)
      have h6 : u.length ≤ reachBytes := of_decide_eq_true h5
      exact h6
end Go.Proofs.YtflmfbcjmjlkbaaDoor
