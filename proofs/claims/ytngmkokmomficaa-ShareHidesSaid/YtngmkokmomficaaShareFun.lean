/- Shares as the programs reckon them, step by step, and what that comes to. No program is named here. -/
import Derived.Test.YtngmkokmomficaaShareMath
namespace Sr
open Ga

theorem getD_at {α : Type} (l : List α) (d : α) {k : Nat} (h : k < l.length) : l.getD k d = l[k] := by simp [List.getD, h]
/-- A polynomial's value, from the last coefficient on. -/
def evalE (p : List E) (x : E) : E := p.foldr (fun c s => Ga.add (Ga.mul s x) c) (0, 0)
theorem evalE_drop (p : List E) (x : E) (k : Nat) (h : k < p.length) : evalE (p.drop k) x = Ga.add (Ga.mul (evalE (p.drop (k + 1)) x) x) p[k] := by
  rw [List.drop_eq_getElem_cons h]; rfl
theorem evalE_end (p : List E) (x : E) : evalE (p.drop p.length) x = (0, 0) := by rw [List.drop_length]; rfl
theorem ok_evalE (p : List E) (x : E) : ok (evalE p x) = true := by
  cases p with
  | nil => exact ok_zero
  | cons c p => exact ok_add _ _
/-- The coefficients, as elements that may be. -/
def lift (p : List E) (h : p.all ok = true) : List F := p.pmap (fun c hc => ⟨c, hc⟩) (List.all_eq_true.1 h)
theorem lift_cons (c : E) (p : List E) (h : (c :: p).all ok = true) : ∃ h1 h2, lift (c :: p) h = ⟨c, h1⟩ :: lift p h2 := by
  rw [List.all_cons, Bool.and_eq_true] at h
  exact ⟨h.1, h.2, rfl⟩
theorem lift_len (p : List E) (h : p.all ok = true) : (lift p h).length = p.length := List.length_pmap
theorem evalE_ev (p : List E) (h : p.all ok = true) (x : F) : evalE p x.1 = (ev (lift p h) x).1 := by
  induction p with
  | nil => rfl
  | cons c p ih =>
    obtain ⟨h1, h2, e⟩ := lift_cons c p h
    rw [e]
    show Ga.add (Ga.mul (evalE p x.1) x.1) c = Ga.add (Ga.mul (ev (lift p h2) x).1 x.1) c
    rw [ih h2]

def mayId (i : Int) : Bool := decide (1 ≤ i ∧ i ≤ 64)
def apart (l : List Int) : Bool := l.all mayId && decide l.Nodup
theorem apart_iff (l : List Int) : apart l = true ↔ (∀ i ∈ l, 1 ≤ i ∧ i ≤ 64) ∧ l.Nodup := by
  simp [apart, mayId]
theorem apart_snoc (l : List Int) (i : Int) : apart (l ++ [i]) = (apart l && mayId i && !l.contains i) := by
  rw [Bool.eq_iff_iff, apart_iff, List.nodup_append]
  simp only [Bool.and_eq_true, apart_iff, List.mem_append, List.mem_singleton]
  simp only [mayId, decide_eq_true_iff, Bool.not_eq_true', List.contains_eq_mem, decide_eq_false_iff_not]
  constructor
  · rintro ⟨h1, h2, h3, h4⟩
    exact ⟨⟨⟨fun j hj => h1 j (.inl hj), h2⟩, h1 i (.inr rfl)⟩, fun hm => h4 i hm i rfl rfl⟩
  · rintro ⟨⟨⟨h1, h2⟩, h3⟩, h4⟩
    exact ⟨fun j hj => hj.elim (h1 j) (fun e => e ▸ h3), h2, by simp, fun a ha b hb e => h4 (hb ▸ e ▸ ha)⟩
theorem apart_app (l m : List Int) (h : apart (l ++ m) = true) : apart l = true := by
  obtain ⟨h1, h2⟩ := (apart_iff _).1 h
  rw [apart_iff]
  exact ⟨fun i hi => h1 i (List.mem_append_left _ hi), (List.nodup_append.1 h2).1⟩
/-- One that doesn't fit behind those ahead: not apart. -/
theorem apart_stop (l : List Int) (k : Nat) (_ : k < l.length) (hb : apart (l.take (k + 1)) = false) : apart l = false := by
  rw [Bool.eq_false_iff]
  intro e
  rw [← List.take_append_drop (k + 1) l] at e
  rw [apart_app _ _ e] at hb
  cases hb
theorem apart_next (l : List Int) (k : Nat) (h : k < l.length) (ha : apart (l.take k) = true) : apart (l.take (k + 1)) = (mayId l[k] && !(l.take k).contains l[k]) := by
  rw [List.take_succ_eq_append_getElem h, apart_snoc, ha, Bool.true_and]
/-- A share: whose, its value. -/
abbrev Shr := Int × E
def ids (l : List Shr) : List Int := l.map (·.1)
def ofE (p : List E) (i : Int) : Shr × Int := if mayId i && p.all ok then ((i, evalE p (i, 0)), 0) else ((0, 0, 0), 1)

section
variable (l : List Int) (k : Nat)
def overE : Nat → E
  | 0 => (1, 0)
  | j + 1 => if j = k then overE j else Ga.mul (overE j) (l.getD j 0, 0)
def underE : Nat → E
  | 0 => (1, 0)
  | j + 1 => if j = k then underE j else Ga.mul (underE j) (Ga.sub (l.getD j 0, 0) (l.getD k 0, 0))
def wtE : E := Ga.mul (overE l k l.length) (Ga.inv (underE l k l.length)).1
end
theorem ok_overE (l : List Int) (k j : Nat) : ok (overE l k j) = true := by
  induction j with
  | zero => exact ok_one
  | succ j ih =>
    rw [overE]; split
    · exact ih
    · exact ok_mul _ _
theorem ok_underE (l : List Int) (k j : Nat) : ok (underE l k j) = true := by
  induction j with
  | zero => exact ok_one
  | succ j ih =>
    rw [underE]; split
    · exact ih
    · exact ok_mul _ _
def sumE (l : List Shr) : Nat → E
  | 0 => (0, 0)
  | k + 1 => Ga.add (sumE l k) (Ga.mul (l.getD k (0, 0, 0)).2 (wtE (ids l) k))
theorem ok_sumE (l : List Shr) (k : Nat) : ok (sumE l k) = true := by
  cases k with
  | zero => exact ok_zero
  | succ k => exact ok_add _ _
def openE (l : List Shr) : E × Int := if decide (l ≠ []) && apart (ids l) && l.all (fun s => ok s.2) then (sumE l l.length, 0) else ((0, 0), 1)
def weightE (l : List Shr) (k : Int) : E × Int := if decide (0 ≤ k ∧ k < l.length) && apart (ids l) then (wtE (ids l) k.toNat, 0) else ((0, 0), 1)

/-- A seat's number as an element. -/
def nd (i : Int) : F := if h : ok (i, 0) = true then ⟨(i, 0), h⟩ else zero
theorem ok_id {i : Int} (h : 1 ≤ i ∧ i ≤ 64) : ok (i, 0) = true := by
  rw [ok_iff]
  simp only
  omega
theorem nd_val {i : Int} (h : 1 ≤ i ∧ i ≤ 64) : (nd i).1 = (i, 0) := by
  rw [nd, dif_pos (ok_id h)]
theorem nd_ne {i : Int} (h : 1 ≤ i ∧ i ≤ 64) : nd i ≠ zero := fun e => by
  have := congrArg Subtype.val e
  rw [nd_val h] at this
  have h1 : i = 0 := congrArg Prod.fst this
  omega
theorem nd_inj {i j : Int} (hi : 1 ≤ i ∧ i ≤ 64) (hj : 1 ≤ j ∧ j ≤ 64) (h : nd i = nd j) : i = j := by
  have := congrArg Subtype.val h
  rw [nd_val hi, nd_val hj] at this
  exact congrArg Prod.fst this
theorem nodes_nodup {l : List Int} (h : apart l = true) : (l.map nd).Nodup := by
  obtain ⟨h1, h2⟩ := (apart_iff l).1 h
  rw [List.Nodup, List.pairwise_map]
  exact h2.imp_of_mem fun ha hb hne e => hne (nd_inj (h1 _ ha) (h1 _ hb) e)
theorem nodes_ne {l : List Int} (h : apart l = true) : ∀ t ∈ l.map nd, t ≠ zero := by
  intro t ht
  obtain ⟨i, hi, rfl⟩ := List.mem_map.1 ht
  exact nd_ne (((apart_iff l).1 h).1 i hi)
theorem nodup_at {l : List Int} (h : l.Nodup) {j k : Nat} (hj : j < l.length) (hk : k < l.length) (hne : j ≠ k) : l[j] ≠ l[k] := by
  intro e
  exact hne ((List.getElem_inj h).1 e)

theorem over_P (l : List Int) (ha : apart l = true) (k : Nat) (hk : k < l.length) (j : Nat) (hj : j ≤ l.length) : overE l k j = (P (fun t => t) (nd l[k]) ((l.take j).map nd)).1 := by
  obtain ⟨h1, h2⟩ := (apart_iff l).1 ha
  induction j with
  | zero => rfl
  | succ j ih =>
    have hj' : j < l.length := by omega
    have i1 := h1 _ (List.getElem_mem hj')
    have i2 := h1 _ (List.getElem_mem hk)
    rw [List.take_succ_eq_append_getElem hj', List.map_append, List.map_cons, List.map_nil, P_snoc, overE, ih (by omega)]
    by_cases e : j = k
    · subst e
      rw [if_pos rfl, if_pos rfl]
    · rw [if_neg e, if_neg (fun c => nodup_at h2 hj' hk e (nd_inj i1 i2 c)), getD_at _ _ hj', ← nd_val i1]
      rfl
theorem under_P (l : List Int) (ha : apart l = true) (k : Nat) (hk : k < l.length) (j : Nat) (hj : j ≤ l.length) : underE l k j = (P (fun t => t + m1 * nd l[k]) (nd l[k]) ((l.take j).map nd)).1 := by
  obtain ⟨h1, h2⟩ := (apart_iff l).1 ha
  induction j with
  | zero => rfl
  | succ j ih =>
    have hj' : j < l.length := by omega
    have i1 := h1 _ (List.getElem_mem hj')
    have i2 := h1 _ (List.getElem_mem hk)
    rw [List.take_succ_eq_append_getElem hj', List.map_append, List.map_cons, List.map_nil, P_snoc, underE, ih (by omega)]
    by_cases e : j = k
    · subst e
      rw [if_pos rfl, if_pos rfl]
    · rw [if_neg e, if_neg (fun c => nodup_at h2 hj' hk e (nd_inj i1 i2 c)), getD_at _ _ hj', getD_at _ _ hk, ← nd_val i1, ← nd_val i2, ← fsub]
      rfl
theorem wtE_wt (l : List Int) (ha : apart l = true) (k : Nat) (hk : k < l.length) : wtE l k = (wt (nd l[k]) (l.map nd)).1 := by
  rw [wtE, over_P l ha k hk l.length (Nat.le_refl _), under_P l ha k hk l.length (Nat.le_refl _), List.take_length, wt_split]
  rfl
theorem wtE_ne (l : List Int) (ha : apart l = true) (k : Nat) (hk : k < l.length) : wtE l k ≠ (0, 0) := by
  rw [wtE_wt l ha k hk]
  intro e
  exact wt_ne (nd l[k]) (l.map nd) (nodes_ne ha) (Subtype.ext e)

/-- A value as an element that may be. -/
def va (x : E) : F := if h : ok x = true then ⟨x, h⟩ else zero
theorem va_val {x : E} (h : ok x = true) : (va x).1 = x := by rw [va, dif_pos h]
/-- What a share brings. -/
def term (S : List F) (s : Shr) : F := va s.2 * wt (nd s.1) S
theorem ids_len (l : List Shr) : (ids l).length = l.length := List.length_map _
theorem sumE_sm (l : List Shr) (ha : apart (ids l) = true) (hv : l.all (fun s => ok s.2) = true) (k : Nat) (hk : k ≤ l.length) : sumE l k = (sm (term ((ids l).map nd)) (l.take k)).1 := by
  induction k with
  | zero => rfl
  | succ k ih =>
    have hk' : k < l.length := by omega
    have hki : k < (ids l).length := by rw [ids_len]; exact hk'
    have hok : ok l[k].2 = true := List.all_eq_true.1 hv _ (List.getElem_mem hk')
    rw [List.take_succ_eq_append_getElem hk', sm_snoc, sumE, ih (by omega), getD_at _ _ hk', wtE_wt (ids l) ha k hki, ← va_val hok]
    have e : (ids l)[k] = l[k].1 := by simp [ids]
    rw [e]
    rfl
theorem sumE_all (l : List Shr) (ha : apart (ids l) = true) (hv : l.all (fun s => ok s.2) = true) : sumE l l.length = (sm (term ((ids l).map nd)) l).1 := by
  rw [sumE_sm l ha hv _ (Nat.le_refl _), List.take_length]

/-- ShareOrder. -/
theorem term_perm {S T : List F} (h : S.Perm T) (s : Shr) : term S s = term T s := by
  unfold term wt
  rw [P_perm _ _ h]
theorem openE_perm {l m : List Shr} (h : l.Perm m) : openE l = openE m := by
  have hid : (ids l).Perm (ids m) := h.map _
  have e1 : apart (ids l) = apart (ids m) := by
    rw [Bool.eq_iff_iff, apart_iff, apart_iff, hid.nodup_iff]
    exact and_congr_left fun _ => ⟨fun k i hi => k i (hid.mem_iff.2 hi), fun k i hi => k i (hid.mem_iff.1 hi)⟩
  have e2 : l.all (fun s => ok s.2) = m.all (fun s => ok s.2) := by
    rw [Bool.eq_iff_iff, List.all_eq_true, List.all_eq_true]
    exact ⟨fun k i hi => k i (h.mem_iff.2 hi), fun k i hi => k i (h.mem_iff.1 hi)⟩
  have e3 : decide (l ≠ []) = decide (m ≠ []) := by
    rw [decide_eq_decide, ne_eq, ne_eq, ← List.length_eq_zero_iff, ← List.length_eq_zero_iff, h.length_eq]
  unfold openE
  rw [← e1, ← e2, ← e3]
  split
  · rename_i hc
    simp only [Bool.and_eq_true] at hc
    obtain ⟨⟨_, h1⟩, h2⟩ := hc
    rw [sumE_all l h1 h2, sumE_all m (e1 ▸ h1) (e2 ▸ h2), sm_perm _ h, sm_congr fun s _ => term_perm (hid.map nd) s]
  · rfl

/-- The shares of a polynomial. -/
def shr (p : List E) (l : List Int) : List Shr := l.map fun i => (i, evalE p (i, 0))
theorem ids_shr (p : List E) (l : List Int) : ids (shr p l) = l := by
  unfold ids shr
  rw [List.map_map]
  conv => rhs; rw [← List.map_id l]
  rfl
theorem shr_len (p : List E) (l : List Int) : (shr p l).length = l.length := List.length_map _
theorem shr_ok (p : List E) (l : List Int) : (shr p l).all (fun s => ok s.2) = true := by
  rw [List.all_eq_true]
  intro s hs
  obtain ⟨i, _, rfl⟩ := List.mem_map.1 hs
  exact ok_evalE _ _
theorem secret_sum (p : List E) (hp : p.all ok = true) (l : List Int) (ha : apart l = true) (hl : p.length ≤ l.length) : sm (term (l.map nd)) (shr p l) = ev (lift p hp) zero := by
  have h1 := ((apart_iff l).1 ha).1
  have e : sm (term (l.map nd)) (shr p l) = L (l.map nd) (ev (lift p hp)) := by
    rw [L, sm_map, shr, sm_map]
    refine sm_congr fun i hi => ?_
    show va (evalE p (i, 0)) * _ = _
    rw [show va (evalE p (i, 0)) = ev (lift p hp) (nd i) from Subtype.ext (by rw [va_val (ok_evalE _ _), ← nd_val (h1 i hi), evalE_ev p hp])]
  rw [e, L_ev _ _ (nodes_nodup ha) (by rw [lift_len, List.length_map]; exact hl)]
/-- ShareSecret. -/
theorem secret (p : List E) (hp : p.all ok = true) (l : List Int) (ha : apart l = true) (h0 : 0 < p.length) (hl : p.length ≤ l.length) : openE (shr p l) = (p[0], 0) := by
  have hne : shr p l ≠ [] := fun e => by
    have := shr_len p l
    rw [e] at this
    simp at this
    omega
  have hc : (decide (shr p l ≠ []) && apart (ids (shr p l)) && (shr p l).all (fun s => ok s.2)) = true := by
    rw [ids_shr, ha, shr_ok, decide_eq_true hne]; rfl
  rw [openE, if_pos hc]
  refine Prod.ext ?_ rfl
  show sumE (shr p l) (shr p l).length = p[0]
  rw [sumE_all _ (by rw [ids_shr]; exact ha) (shr_ok _ _), ids_shr, secret_sum p hp l ha hl]
  match p, hp, h0 with
  | c :: p, hp, _ =>
    obtain ⟨h1, h2, e⟩ := lift_cons c p hp
    rw [e, ev_zero]
    rfl

/-- ShareHides: the last share makes whatever secret is wished. -/
theorem sumE_congr {l m : List Shr} (hid : ids l = ids m) (k : Nat) (h : ∀ j, j < k → l.getD j (0, 0, 0) = m.getD j (0, 0, 0)) : sumE l k = sumE m k := by
  induction k with
  | zero => rfl
  | succ k ih => rw [sumE, sumE, ih fun j hj => h j (by omega), hid, h k (by omega)]
theorem getD_app (l : List Shr) (s d : Shr) (j : Nat) (h : j < l.length) : (l ++ [s]).getD j d = l.getD j d := by
  rw [getD_at _ _ (by rw [List.length_append]; simp; omega), getD_at _ _ h, List.getElem_append_left h]
theorem getD_last (l : List Shr) (s d : Shr) : (l ++ [s]).getD l.length d = s := by
  rw [getD_at _ _ (by rw [List.length_append]; simp), List.getElem_append_right (Nat.le_refl _)]
  simp
theorem ids_snoc (l : List Shr) (s : Shr) : ids (l ++ [s]) = ids l ++ [s.1] := by simp [ids]
theorem openE_snoc (l : List Shr) (i : Int) (v : E) (ha : apart (ids l ++ [i]) = true) (hv : l.all (fun s => ok s.2) = true) (h : ok v = true) :
    openE (l ++ [(i, v)]) = (Ga.add (sumE (l ++ [(i, 0, 0)]) l.length) (Ga.mul v (wtE (ids l ++ [i]) l.length)), 0) := by
  have hc : (decide (l ++ [(i, v)] ≠ []) && apart (ids (l ++ [(i, v)])) && (l ++ [(i, v)]).all (fun s => ok s.2)) = true := by
    rw [ids_snoc, ha, List.all_append, hv]
    simp [h]
  rw [openE, if_pos hc]
  refine Prod.ext ?_ rfl
  show sumE (l ++ [(i, v)]) (l ++ [(i, v)]).length = _
  rw [List.length_append, List.length_singleton, sumE, getD_last, ids_snoc]
  congr 1
  refine sumE_congr (by rw [ids_snoc, ids_snoc]) _ fun j hj => ?_
  rw [getD_app _ _ _ _ hj, getD_app _ _ _ _ hj]
theorem hides (l : List Shr) (i : Int) (other : E) (ha : apart (ids l ++ [i]) = true) (hv : l.all (fun s => ok s.2) = true) (ho : ok other = true) :
    ∃ sum w iv, openE (l ++ [(i, 0, 0)]) = (sum, 0) ∧ weightE (l ++ [(i, 0, 0)]) l.length = (w, 0) ∧ Ga.invR w = (iv, 0) ∧ openE (l ++ [(i, Ga.mul (Ga.sub other sum) iv)]) = (other, 0) := by
  have hlen : (ids l ++ [i]).length = l.length + 1 := by rw [List.length_append, ids_len]; rfl
  have hw := wtE_ne (ids l ++ [i]) ha l.length (by omega)
  have hwo : ok (wtE (ids l ++ [i]) l.length) = true := ok_mul _ _
  obtain ⟨hio, hi2, him⟩ := invR_mul hwo hw
  have e0 := openE_snoc l i (0, 0) ha hv ok_zero
  generalize hW : wtE (ids l ++ [i]) l.length = w at *
  generalize hS : sumE (l ++ [(i, 0, 0)]) l.length = S at *
  have hSo : ok S = true := by rw [← hS]; exact ok_sumE _ _
  have e1 : Ga.mul (0, 0) w = (0, 0) := by rw [Ga.mul_comm]; exact Ga.mul_zero hwo
  rw [e1, Ga.add_zero hSo] at e0
  refine ⟨S, w, (Ga.invR w).1, e0, ?_, Prod.ext rfl hi2, ?_⟩
  · have hc : (decide (0 ≤ (l.length : Int) ∧ (l.length : Int) < (l ++ [(i, 0, 0)]).length) && apart (ids (l ++ [(i, 0, 0)]))) = true := by
      rw [ids_snoc, ha]
      simp
      omega
    rw [weightE, if_pos hc, ids_snoc, Int.toNat_natCast, hW]
  · rw [openE_snoc l i _ ha hv (ok_mul _ _), hS, hW]
    refine Prod.ext ?_ rfl
    show Ga.add S (Ga.mul (Ga.mul (Ga.sub other S) (Ga.invR w).1) w) = other
    rw [Ga.mul_assoc (ok_sub _ _) hio hwo, Ga.mul_comm (Ga.invR w).1 w, him, Ga.one_mul (ok_sub _ _)]
    have := fsub ⟨other, ho⟩ ⟨S, hSo⟩
    have h2 : (⟨S, hSo⟩ : F) + ⟨Ga.sub other S, ok_sub _ _⟩ = ⟨other, ho⟩ := by
      rw [this, fadd_comm, fadd_assoc, fadd_comm (m1 * _), add_m1, fadd_zero]
    exact congrArg Subtype.val h2

/-- ShareSpoilt: another share, another secret. -/
theorem all_set (l : List Shr) (k : Nat) (s : Shr) (hv : l.all (fun s => ok s.2) = true) (h : ok s.2 = true) : (l.set k s).all (fun s => ok s.2) = true := by
  rw [List.all_eq_true] at hv ⊢
  intro x hx
  rcases List.mem_or_eq_of_mem_set hx with h1 | rfl
  · exact hv x h1
  · exact h
theorem ids_set (l : List Shr) (k : Nat) (h : k < l.length) (v : E) : ids (l.set k (l[k].1, v)) = ids l := by
  unfold ids
  rw [List.map_set]
  refine List.ext_getElem (by simp) fun n h1 h2 => ?_
  rw [List.getElem_set]
  split
  · rename_i e; subst e; simp
  · rfl
theorem spoilt (p : List E) (hp : p.all ok = true) (l : List Int) (ha : apart l = true) (k : Nat) (hk : k < (shr p l).length) (h0 : 0 < p.length) (hl : p.length ≤ l.length) (v : E) (hv : ok v = true) :
    ∃ x, openE ((shr p l).set k ((shr p l)[k].1, v)) = (x, 0) ∧ (x = p[0] ↔ v = (shr p l)[k].2) := by
  have hid := ids_set (shr p l) k hk v
  rw [ids_shr] at hid
  have hall := all_set (shr p l) k ((shr p l)[k].1, v) (shr_ok p l) hv
  have hne : (shr p l).set k ((shr p l)[k].1, v) ≠ [] := fun e => by
    have := congrArg List.length e
    rw [List.length_set] at this
    simp at this
    rw [this] at hk
    simp at hk
  have hc : (decide ((shr p l).set k ((shr p l)[k].1, v) ≠ []) && apart (ids ((shr p l).set k ((shr p l)[k].1, v))) && ((shr p l).set k ((shr p l)[k].1, v)).all (fun s => ok s.2)) = true := by
    rw [hid, ha, hall, decide_eq_true hne]; rfl
  refine ⟨_, by rw [openE, if_pos hc], ?_⟩
  have hs := secret_sum p hp l ha hl
  have h1 := sm_set (term (l.map nd)) (shr p l) k hk ((shr p l)[k].1, v)
  have h2 : p[0] = (sm (term (l.map nd)) (shr p l)).1 := by
    rw [hs]
    match p, hp, h0 with
    | c :: p, hp, _ =>
      obtain ⟨h1, h2, e⟩ := lift_cons c p hp
      rw [e, ev_zero]
      rfl
  rw [sumE_all _ (by rw [hid]; exact ha) hall, hid, h2]
  have hik : 1 ≤ (shr p l)[k].1 ∧ (shr p l)[k].1 ≤ 64 := by
    refine ((apart_iff l).1 ha).1 _ ?_
    obtain ⟨i, hi, e⟩ := List.mem_map.1 (show (shr p l)[k] ∈ shr p l from List.getElem_mem hk)
    rw [← e]
    exact hi
  have hw := wt_ne (nd (shr p l)[k].1) (l.map nd) (nodes_ne ha)
  have hok : ok (shr p l)[k].2 = true := List.all_eq_true.1 (shr_ok p l) _ (List.getElem_mem hk)
  generalize sm (term (l.map nd)) ((shr p l).set k ((shr p l)[k].1, v)) = X at *
  generalize sm (term (l.map nd)) (shr p l) = Y at *
  constructor
  · intro e
    have e' : X = Y := Subtype.ext e
    rw [e'] at h1
    have h3 := add_cancel h1
    unfold term at h3
    simp only at h3
    rw [fmul_comm, fmul_comm (va v)] at h3
    have h4 := congrArg Subtype.val (mul_cancel hw h3)
    rw [va_val hok, va_val hv] at h4
    exact h4.symm
  · intro e
    have h3 : term (l.map nd) ((shr p l)[k].1, v) = term (l.map nd) (shr p l)[k] := by rw [e]
    rw [h3, fadd_comm, fadd_comm Y] at h1
    rw [add_cancel h1]

/-- ShareWeights. -/
def wsum (l : List Int) : Nat → E
  | 0 => (0, 0)
  | k + 1 => Ga.add (wsum l k) (wtE l k)
theorem wsum_sm (l : List Int) (ha : apart l = true) (k : Nat) (hk : k ≤ l.length) : wsum l k = (sm (fun x => wt x (l.map nd)) ((l.take k).map nd)).1 := by
  induction k with
  | zero => rfl
  | succ k ih =>
    rw [List.take_succ_eq_append_getElem (show k < l.length by omega), List.map_append, List.map_cons, List.map_nil, sm_snoc, wsum, ih (by omega), wtE_wt l ha k (by omega)]
    rfl
theorem weights_one (l : List Int) (ha : apart l = true) (h : l ≠ []) : wsum l l.length = (1, 0) := by
  rw [wsum_sm l ha _ (Nat.le_refl _), List.take_length]
  have e : sm (fun x => wt x (l.map nd)) (l.map nd) = L (l.map nd) (fun _ => one) := sm_congr fun x _ => (fone_mul _).symm
  rw [e, L_one _ (nodes_nodup ha) (by simpa using h)]
  rfl

/-- ShareAdds. -/
def sums (a b : List E) : List E := List.zipWith Ga.add a b
theorem sums_ok (a b : List E) : (sums a b).all ok = true := by
  rw [List.all_eq_true]
  intro x hx
  obtain ⟨i, hi, rfl⟩ := List.mem_iff_getElem.1 hx
  simp only [sums, List.getElem_zipWith]
  exact ok_add _ _
theorem evalE_sums (a b : List E) (x : E) (hx : ok x = true) (ha : a.all ok = true) (hb : b.all ok = true) (h : a.length = b.length) : evalE (sums a b) x = Ga.add (evalE a x) (evalE b x) := by
  induction a generalizing b with
  | nil =>
    match b, h with
    | [], _ => exact (by decide : ((0, 0) : E) = Ga.add (0, 0) (0, 0))
  | cons c a ih =>
    match b, h, hb with
    | d :: b, h, hb =>
      rw [List.all_cons, Bool.and_eq_true] at ha hb
      have := ih b ha.2 hb.2 (by simpa using h)
      show Ga.add (Ga.mul (evalE (sums a b) x) x) (Ga.add c d) = Ga.add (Ga.add (Ga.mul (evalE a x) x) c) (Ga.add (Ga.mul (evalE b x) x) d)
      rw [this]
      have e : ((⟨evalE a x, ok_evalE _ _⟩ + ⟨evalE b x, ok_evalE _ _⟩) * ⟨x, hx⟩ + (⟨c, ha.1⟩ + ⟨d, hb.1⟩) : F) = (⟨evalE a x, ok_evalE _ _⟩ * ⟨x, hx⟩ + ⟨c, ha.1⟩) + (⟨evalE b x, ok_evalE _ _⟩ * ⟨x, hx⟩ + ⟨d, hb.1⟩) := by
        rw [fadd_mul]; ac_rfl
      exact congrArg Subtype.val e

/-- The numbers that are those of seats, each once. -/
def dis : List Int → List Int → List Int
  | [], out => out
  | i :: l, out => dis l (if mayId i && !out.contains i then out ++ [i] else out)
theorem dis_apart (l out : List Int) (h : apart out = true) : apart (dis l out) = true := by
  induction l generalizing out with
  | nil => exact h
  | cons i l ih =>
    apply ih
    split
    · rename_i hc
      rw [Bool.and_eq_true] at hc
      obtain ⟨h1, h2⟩ := (apart_iff out).1 h
      rw [apart_iff]
      refine ⟨fun j hj => ?_, ?_⟩
      · rcases List.mem_append.1 hj with hj | hj
        · exact h1 j hj
        · rw [List.mem_singleton] at hj
          subst hj
          simpa [mayId] using hc.1
      · rw [List.nodup_append]
        refine ⟨h2, by simp, fun a ha b hb => ?_⟩
        rw [List.mem_singleton] at hb
        subst hb
        intro e
        subst e
        have := hc.2
        simp at this
        exact this ha
    · exact h
theorem dis_take (l : List Int) (k : Nat) (hk : k < l.length) (out : List Int) : dis (l.take (k + 1)) out = (let o := dis (l.take k) out; if mayId l[k] && !o.contains l[k] then o ++ [l[k]] else o) := by
  induction l generalizing k out with
  | nil => simp at hk
  | cons i l ih =>
    cases k with
    | zero => rfl
    | succ k => exact ih k (by simpa using hk) _
theorem apart_take {l : List Int} (h : apart l = true) (n : Nat) : apart (l.take n) = true := by
  obtain ⟨h1, h2⟩ := (apart_iff l).1 h
  rw [apart_iff]
  exact ⟨fun i hi => h1 i (List.mem_of_mem_take hi), h2.sublist (List.take_sublist n l)⟩
theorem apart_len {l : List Int} (h : apart l = true) : l.length ≤ 64 := by
  obtain ⟨h1, h2⟩ := (apart_iff l).1 h
  have key : ∀ (n : Nat) (l : List Int), l.Nodup → (∀ i ∈ l, 1 ≤ i ∧ i ≤ (n : Int)) → l.length ≤ n := by
    intro n
    induction n with
    | zero =>
      intro l _ h
      match l, h with
      | [], _ => simp
      | i :: l, h => have := h i List.mem_cons_self; omega
    | succ n ih =>
      intro l hn h
      have he : (l.erase ((n : Int) + 1)).Nodup := hn.erase _
      have := ih (l.erase ((n : Int) + 1)) he fun i hi => by
        obtain ⟨hne, hm⟩ := (hn.mem_erase_iff).1 hi
        have := h i hm
        omega
      have hl := List.length_erase (a := (n : Int) + 1) (l := l)
      split at hl <;> omega
  exact key 64 l h2 fun i hi => by have := h1 i hi; omega
end Sr
